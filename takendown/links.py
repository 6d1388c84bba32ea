"""Links: the moves within a set of states, who makes them, and the parts of the set that they hold together."""


def who_moves(move):
    """Return the mover of a move, None if it is nobody's duty."""
    if move[0] in ("begin", "go"):
        return move[1]
    return move[1:3] if move[0] == "pass" else None


def come_to(device, move):
    """Return the tuple (crowd, place) to which a move brings users, or None."""
    if move[0] == "come":
        return (move[1], 0)
    if move[0] != "pass":
        return None
    _, crowd, place, way, _ = move
    ahead = device[crowd].nexts(place)[way]
    return (crowd, ahead) if ahead < len(device[crowd]) else None


def able_in(course, code):
    """Return the list of the movers that can move in the state of a code."""
    return movers_of(course.onward(code))


def movers_of(onward):
    """Return the list of the movers of a list of tuples (move, code behind it)."""
    found = []
    for move, _ in onward:
        mover = who_moves(move)
        if mover is not None and mover not in found[-1:]:
            found.append(mover)
    return found


def is_stuck(course, code):
    """Whether the device is not freed, and the row's step is not possible."""
    return not course.is_freed(code) and not course.may_step(code)


def is_dead_code(course, code):
    """Whether the state of a code is a dead stand."""
    return is_stuck(course, code) and len(able_in(course, code)) == 0


class Links:
    """The links between the states of some codes, each a tuple (move, mover, place come to, code behind it)."""

    def __init__(self, device, course, codes):
        onward = {code: course.onward(code) for code in codes}
        self._able = {code: movers_of(onward[code]) for code in codes}
        self._links = {
            code: [
                (move, who_moves(move), come_to(device, move), ahead) for move, ahead in onward[code] if ahead in onward
            ]
            for code in codes
        }

    def able(self, code):
        """Return the list of the movers that can move in the state of a code."""
        return self._able[code]

    def within(self, codes, spent):
        """Return the dict from some codes to the lists of their links to one another, but passes from spent places."""
        known = {code: True for code in codes}
        return {
            code: [link for link in self._links[code] if link[3] in known and link[1] not in spent] for code in codes
        }


def by_ends(aheads):
    """Return the list of all codes of a dict to the lists of codes behind them, as a walk into depth leaves them."""
    seen = {}
    found = []
    for root in aheads:
        way = [] if root in seen else [(root, 0)]
        seen[root] = True
        while len(way) > 0:
            code, at = way.pop()
            while at < len(aheads[code]) and aheads[code][at] in seen:
                at += 1
            if at == len(aheads[code]):
                found.append(code)
                continue
            ahead = aheads[code][at]
            seen[ahead] = True
            way.extend([(code, at + 1), (ahead, 0)])
    return found


def gathered(root, backs, seen):
    """Return the list of a code and all that lead to it without those that were seen, which are then seen, too."""
    seen[root] = True
    found = []
    waiting = [root]
    while len(waiting) > 0:
        code = waiting.pop()
        found.append(code)
        for back in backs[code]:
            if back not in seen:
                seen[back] = True
                waiting.append(back)
    return found


def parts_within(links):
    """Return the list of the parts of a dict from codes to links: the codes of one lead to one another.

    Each link leads within a part or to a later one: the code that a walk leaves last is in the first part.
    """
    aheads = {code: [link[3] for link in links[code]] for code in links}
    backs = {code: [] for code in links}
    for code in links:
        for ahead in aheads[code]:
            backs[ahead].append(code)
    seen = {}
    return [gathered(root, backs, seen) for root in by_ends(aheads)[::-1] if root not in seen]

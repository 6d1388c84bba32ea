"""Knots: sets of states in which a fair run can go round for ever, or ending papers that tell there is none."""

from takendown.links import Links, is_stuck, parts_within


def reason_of(links, part, spent):
    """Return why no fair run stays in a part, what is left of it, and the spent places there; None if one does."""
    within = links.within(part, spent)
    inner = [link for code in part for link in within[code]]
    if len(inner) == 0:
        return (None, [], spent)
    moved = {link[1]: True for link in inner}
    for code in part:
        for mover in links.able(code):
            if mover not in moved:
                rest = [one for one in part if mover not in links.able(one)]
                return (("moves", mover), rest, spent)
    reached = {link[2]: True for link in inner}
    for mover in moved:
        if isinstance(mover, tuple) and mover not in reached:
            return (("left",) + mover, part, spent + (mover,))
    return None


def untied(links, codes, spent):
    """Return (ending paper for codes, None), or, if there is none, (None, a part in which a fair run stays)."""
    paper = []
    for part in parts_within(links.within(codes, spent)):
        told = reason_of(links, part, spent)
        if told is None:
            return (None, (part, spent))
        reason, rest, further = told
        inner, knot = untied(links, rest, further)
        if knot is not None:
            return (None, knot)
        paper.append((part, reason, inner))
    return (paper, None)


def way_to(within, start, end):
    """Return a shortest list of links that leads from a code to another one."""
    came = {start: None}
    level = [start]
    while end not in came:
        level = gone_on(within, level, came)
    found = []
    while came[end] is not None:
        end, link = came[end]
        found.append(link)
    return found[::-1]


def gone_on(within, level, came):
    """Return the list of the codes to which links lead from some first, and tell in came by which link each is."""
    found = []
    for code in level:
        for link in within[code]:
            if link[3] not in came:
                came[link[3]] = (code, link)
                found.append(link[3])
    return found


def round_of(links, knot, start):
    """Return a round of a state in a knot: in it each mover moves and each place is come to that do so in the knot."""
    part, spent = knot
    within = links.within(part, spent)
    found = []
    seen = {("moves", None): True, ("comes", None): True}
    here = start
    for code in part:
        for link in within[code]:
            if ("moves", link[1]) not in seen or ("comes", link[2]) not in seen:
                for passed in way_to(within, here, code) + [link]:
                    seen[("moves", passed[1])] = True
                    seen[("comes", passed[2])] = True
                    found.append(passed[0])
                here = link[3]
    return found + [passed[0] for passed in way_to(within, here, start)]


def paper_of_states(course, paper):
    """Return the ending paper for states of one for codes."""
    return [
        ([course.state_of(code) for code in part], reason, paper_of_states(course, inner))
        for part, reason, inner in paper
    ]


def judged(device, course, search):
    """Return ((run, round), None) if the row waits, otherwise (None, ending paper for the codes of waiting states)."""
    codes = [code for code in search.codes() if is_stuck(course, code)]
    links = Links(device, course, codes)
    for code in codes:
        # Nobody can move: the state is a dead stand.
        if len(links.able(code)) == 0:
            return ((search.run(code), []), None)
    paper, knot = untied(links, codes, ())
    if knot is None:
        return (None, paper)
    start = min([(search.depth(code), code) for code in knot[0]])[1]
    return ((search.run(start), round_of(links, knot, start)), None)

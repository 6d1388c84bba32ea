"""Waiting for ever a second time, from the words of the document and slowly, to compare the program with."""

import itertools

from slow import item_and_next, slow_moves


def slow_mover(move):
    if move[0] in ("begin", "go"):
        return move[1]
    return (move[1], move[2]) if move[0] == "pass" else None


def slow_goal(device, move):
    """Return the (crowd, place) to which a move brings users, or None."""
    if move[0] == "come":
        return (move[1], 0)
    if move[0] != "pass":
        return None
    ahead = item_and_next(device, *move[1:4])[1]
    return None if ahead is None else (move[1], ahead)


class Slow:
    """The moves of a device and a row, each state's looked up but once."""

    def __init__(self, device, row):
        self.device, self.row = device, row
        self.known = {}

    def moves(self, state):
        if state not in self.known:
            self.known[state] = slow_moves(self.device, self.row, state)
        return self.known[state]

    def able(self, state):
        return {slow_mover(move) for move, _ in self.moves(state)} - {None}

    def is_stuck(self, state):
        return state[4] <= len(self.row) and all(move != ("step",) for move, _ in self.moves(state))

    def is_dead(self, state):
        return self.is_stuck(state) and not self.able(state)

    def is_round(self, state, value):
        if not isinstance(value, list) or not value:
            return False
        states, now = [state], state
        for move in value:
            behind = [ahead for possible, ahead in self.moves(now) if repr(possible) == repr(move)]
            if not behind:
                return False
            now = behind[0]
            states.append(now)
        able = set().union(*map(self.able, states))
        moved = {slow_mover(move) for move in value} - {None}
        reached = {slow_goal(self.device, move) for move in value}
        return (now == state and all(map(self.is_stuck, states)) and able <= moved
                and all(mover in reached for mover in moved if isinstance(mover, tuple)))

    def links(self, states, spent=()):
        """Return the list of (state, move, state behind it) within a set of states."""
        inside = set(states)
        return [(state, move, ahead) for state in states for move, ahead in self.moves(state)
                if ahead in inside and not (move[0] == "pass" and move[1:3] in spent)]

    def parts(self, states, spent=()):
        """Return the set of the sets of states that lead to one another."""
        ways = {state: {state} for state in states}
        for state, _, ahead in self.links(states, spent):
            ways[state].add(ahead)
        reach = {}
        for state in states:
            seen, queue = {state}, [state]
            for one in queue:
                for ahead in ways[one] - seen:
                    seen.add(ahead)
                    queue.append(ahead)
            reach[state] = seen
        return {frozenset(other for other in reach[state] if state in reach[other]) for state in states}

    def is_fair(self, part, spent):
        links = self.links(part, spent)
        able = set().union(*map(self.able, part))
        moved = {slow_mover(move) for _, move, _ in links} - {None}
        reached = {slow_goal(self.device, move) for _, move, _ in links}
        return bool(links) and able <= moved and all(one in reached for one in moved if isinstance(one, tuple))

    def waits(self, states):
        """Return None, 'dead' or 'round', as all states before the free tell."""
        stuck = [state for state in states if self.is_stuck(state)]
        if any(map(self.is_dead, stuck)):
            return "dead"
        movers = sorted(set().union(*map(self.able, stuck)), key=str)
        spots = [mover for mover in movers if isinstance(mover, tuple)]
        for still in subsets(movers):
            rest = [state for state in stuck if not self.able(state) & set(still)]
            if rest and any(self.is_fair(part, spent) for spent in subsets(spots) for part in self.parts(rest, spent)):
                return "round"
        return None

    def is_ending(self, states, value, spent=()):
        """Whether any value is an ending paper for a set of states, all of them stuck."""
        if not isinstance(value, list):
            return False
        number, known = {}, set(map(repr, states))
        for at, part in enumerate(value):
            if not (isinstance(part, tuple) and len(part) == 3 and isinstance(part[0], list)):
                return False
            for state in part[0]:
                if repr(state) not in known or state in number:
                    return False
                number[state] = at
        if set(number) != set(states):
            return False
        if any(number[ahead] < number[state] for state, _, ahead in self.links(states, spent)):
            return False
        return all(self.is_reason(part, reason, inner, spent) for part, reason, inner in value)

    def is_reason(self, part, reason, inner, spent):
        links = self.links(part, spent)
        if reason is None:
            return len(part) == 1 and not links and isinstance(inner, list) and inner == []
        if not isinstance(reason, tuple) or not reason:
            return False
        if repr(reason[0]) == "'moves'" and len(reason) == 2:
            mover = reason[1]
            able = [state for state in part if repr(mover) in set(map(repr, self.able(state)))]
            rest = [state for state in part if state not in able]
            return (bool(able) and all(repr(slow_mover(move)) != repr(mover) for _, move, _ in links)
                    and self.is_ending(rest, inner, spent))
        if repr(reason[0]) != "'left'" or len(reason) != 3:
            return False
        spots = [(crowd, place) for crowd in self.device.crowds() for place in range(len(self.device[crowd]))]
        spot = reason[1:]
        return (repr(spot) in set(map(repr, spots)) and spot not in spent
                and all(slow_goal(self.device, move) != spot for _, move, _ in links)
                and self.is_ending(part, inner, spent + (spot,)))


def subsets(members):
    for many in range(len(members) + 1):
        yield from itertools.combinations(members, many)

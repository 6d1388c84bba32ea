"""Users: states with the numbers of users, and how many of them make a row loud."""

from takendown.courses import course_of
from takendown.errors import InvalidNumber, LimitExceeded
from takendown.items import is_index
from takendown.moves import codes_along
from takendown.rows import fits
from takendown.searches import checked_search, is_closed_list
from takendown.tables import Table

MOST_USERS = 9


def check_most(value):
    """Raise InvalidNumber if any value is no number of users that a table may have."""
    if not is_index(value, MOST_USERS + 1):
        raise InvalidNumber(value)


class CountedTable:
    """All counted states of a device and a row before the free, of at most most users. It never changes."""

    def __init__(self, device, row, most, *, limit=6000):
        fits(device, row)
        check_most(most)
        self._course = course_of(device, row, most)
        self._search = checked_search(self._course, limit)

    def __contains__(self, x):
        return self._course.code_of(x) in self._search

    def __len__(self):
        return len(self._search)

    def states(self):
        """Return the list of the counted states."""
        return [self._course.state_of(code) for code in self._search.codes()]

    def loud(self):
        """Return a counted loud run with the fewest moves, or None."""
        return self._search.loud()


def fewest_users(device, row, *, limit=6000):
    """Return None, or the fewest users that make the row loud, and a shortest counted loud run of so many."""
    if Table(device, row, limit=limit).loud() is None:
        return None
    for most in range(MOST_USERS + 1):
        run = CountedTable(device, row, most, limit=limit).loud()
        if run is not None:
            return (most, run)
    raise LimitExceeded(limit)


def is_closed_for(device, row, most, value):
    """Return whether any value is a list of counted states that is closed by all moves of at most most users."""
    fits(device, row)
    check_most(most)
    return is_closed_list(course_of(device, row, most), value)


def counted(device, row, run):
    """Return a counted run for a run of states."""
    course = course_of(device, row)
    states = [course.state_of(code) for code in codes_along(course, run)]
    amounts = amounts_along(device, run, states)
    users = {}
    found = []
    for move, amount in zip(run, amounts):
        if move[0] not in ("come", "pass"):
            found.append(move)
            continue
        here, ahead = ends_of(device, move)
        if move[0] == "pass" and not move[4]:
            amount = users[here]
        users[here] = users.get(here, 0) - amount
        users[ahead] = users.get(ahead, 0) + amount
        found.extend([move[:4]] * amount)
    return found


def ends_of(device, move):
    """Return the spots (crowd, place) from and to which users go by a move come or pass; outside the place is None."""
    crowd = move[1]
    if move[0] == "come":
        return ((crowd, None), (crowd, 0))
    place, way = move[2:4]
    ahead = device[crowd].nexts(place)[way]
    return ((crowd, place), (crowd, ahead if ahead < len(device[crowd]) else None))


def spots_in(device, state):
    """Return the dict from the occupied spots (crowd, place) of a state to 1."""
    return {(crowd, place): 1 for crowd, places in zip(device.crowds(), state[3]) for place in places}


def amounts_along(device, run, states):
    """Return the list of how many users go by each move of a run, so that there are enough for all later moves.

    From the last move back to the first one it is reckoned how many must be at each spot at least.
    A pass that leaves nobody takes all who are there, which are not fewer.
    """
    found = []
    wanted = spots_in(device, states[-1])
    for move, state in zip(run[::-1], states[-2::-1]):
        amount = 1
        if move[0] in ("come", "pass"):
            here, ahead = ends_of(device, move)
            at_least = spots_in(device, state)
            already = at_least.get(ahead, 0)
            if ahead[1] is not None:
                amount = max(1, wanted.get(ahead, 0) - already)
            wanted = {**wanted, here: wanted.get(here, 0) + amount, ahead: already}
        found.append(amount)
    return found[::-1]

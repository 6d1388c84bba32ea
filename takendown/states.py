"""States of a device and a row: what each thread, flag, crowd and the row are at."""

from takendown.errors import InvalidState
from takendown.items import is_index
from takendown.rows import fits

ROW = ""


def first_state(device, row):
    """Return the state in which nothing was done."""
    fits(device, row)
    works = tuple([(name in device.armed, None) for name in device.works()])
    flags = tuple([flag in device.flagged for flag in device.flags()])
    guests = tuple([None for _ in device.guests()])
    crowds = tuple([() for _ in device.crowds()])
    return (works, flags, guests, crowds, 0)


def is_state(device, row, value):
    """Return whether any value is a state."""
    fits(device, row)
    return has_form(device, row, value) and not is_torn(device, row, value)


def is_quiet(device, row, state):
    """Return whether no work is armed or runs, all gates are closed and nobody is inside."""
    check_state(device, row, state)
    works, _, guests, crowds, done = state
    if any([armed or place is not None for armed, place in works]):
        return False
    if any([place is not None for place in guests]) or any([len(places) > 0 for places in crowds]):
        return False
    return closed_gates(row, done) == device.gates()


def held_by(device, row, state):
    """Return the dict from the locks that are not free to the threads that hold them, or the empty text."""
    check_state(device, row, state)
    return {lock: holder for lock, holder in sorted(holdings(device, row, state))}


def check_state(device, row, value):
    """Raise InvalidState if any value is no state."""
    if not is_state(device, row, value):
        raise InvalidState(value)


def has_form(device, row, value):
    """Whether any value is a state, whoever holds the locks."""
    if not isinstance(value, tuple) or len(value) != 5:
        return False
    works, flags, guests, crowds, done = value
    if not is_index(done, len(row) + 2) or not has_bools(flags, len(device.flags())):
        return False
    return has_works(device, works) and has_guests(device, guests) and has_crowds(device, crowds)


def is_tuple_of(value, many):
    """Whether any value is a tuple of so many members."""
    return isinstance(value, tuple) and len(value) == many


def has_bools(value, many):
    """Whether any value is a tuple of so many bools."""
    return is_tuple_of(value, many) and all([isinstance(one, bool) for one in value])


def has_works(device, value):
    """Whether any value tells of each work whether it is armed, and its place or None."""
    names = device.works()
    if not is_tuple_of(value, len(names)) or not all([is_tuple_of(one, 2) for one in value]):
        return False
    if not has_bools(tuple([one[0] for one in value]), len(names)):
        return False
    return are_places(device, names, [one[1] for one in value])


def has_guests(device, value):
    """Whether any value tells of each guest its place, or None."""
    names = device.guests()
    return is_tuple_of(value, len(names)) and are_places(device, names, value)


def are_places(device, names, values):
    """Whether each of as many values as names is None or a place of the thread of this name."""
    return all([value is None or is_index(value, len(device[name])) for name, value in zip(names, values)])


def has_crowds(device, value):
    """Whether any value tells of each crowd the rising tuple of its occupied places."""
    names = device.crowds()
    if not is_tuple_of(value, len(names)):
        return False
    return all([are_rising(places, len(device[name])) for name, places in zip(names, value)])


def are_rising(value, end):
    """Whether any value is a tuple of places below the end, each above the one ahead of it."""
    if not isinstance(value, tuple) or not all([is_index(place, end) for place in value]):
        return False
    return all([value[at] < value[at + 1] for at in range(len(value) - 1)])


def holdings(device, row, state):
    """Return the list of all tuples of a lock and who holds it; ROW stands for the row."""
    works, _, guests, _, done = state
    places = [place for _, place in works] + list(guests)
    found = [(lock, ROW) for lock in row.held(done)]
    for name, place in zip(device.works() + device.guests(), places):
        if place is not None:
            found.extend([(lock, name) for lock in device[name].held(place)])
    return found


def is_torn(device, row, state):
    """Whether a lock is held by two."""
    locks = [lock for lock, _ in holdings(device, row, state)]
    return len(set(locks)) < len(locks)


def closed_gates(row, done):
    """Return the ascending list of the gates that the first done steps close."""
    return sorted({name for word, name in row.steps()[:done] if word == "close"})

"""States of a device and a row: what each thread, flag, crowd and the row are at."""

from takendown.courses import code_in, course_of
from takendown.rows import fits

ROW = ""


def first_state(device, row):
    """Return the state in which nothing was done."""
    fits(device, row)
    works = tuple([(name in device.armed, None) for name in device.works()])
    flags = tuple([flag in device.flagged for flag in device.flags()])
    guests = tuple([None for _ in device.guests()])
    crowds = tuple([() for _ in device.crowds()])
    return (works, flags, guests, crowds, 0)


def is_state(device, row, value):
    """Return whether any value is a state."""
    return course_of(device, row).code_of(value) is not None


def is_quiet(device, row, state):
    """Return whether no work is armed or runs, all gates are closed and nobody is inside."""
    course = course_of(device, row)
    return course.is_quiet(code_in(course, state))


def held_by(device, row, state):
    """Return the dict from the locks that are not free to the threads that hold them, or the empty text."""
    code_in(course_of(device, row), state)
    return {lock: holder for lock, holder in sorted(holdings(device, row, state))}


def holdings(device, row, state):
    """Return the list of all tuples of a lock and who holds it; ROW stands for the row."""
    works, _, guests, _, done = state
    places = [place for _, place in works] + list(guests)
    found = [(lock, ROW) for lock in row.held(done)]
    for name, place in zip(device.works() + device.guests(), places):
        if place is not None:
            found.extend([(lock, name) for lock in device[name].held(place)])
    return found

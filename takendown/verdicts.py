"""Verdicts: whether a row is loud, waits or is right, with what shows it."""

from takendown.courses import STEP, course_of
from takendown.endings import is_ending
from takendown.errors import InvalidMove, NotRight
from takendown.knots import judged, paper_of_states
from takendown.moves import codes_along
from takendown.searches import checked_search
from takendown.tables import is_closed
from takendown.waits import is_waiting


def verdict(device, row, *, limit=6000):
    """Return loud with a loud run, waits with a run and a round, or right with a table and an ending paper."""
    course = course_of(device, row)
    search = checked_search(course, limit)
    loud = search.loud()
    if loud is not None:
        return ("loud", loud)
    waiting, paper = judged(device, course, search)
    if waiting is not None:
        return ("waits",) + waiting
    return ("right", [course.state_of(code) for code in search.codes()], paper_of_states(course, paper))


def is_right(device, row, *, limit=6000):
    """Return whether a row is neither loud nor waiting."""
    course = course_of(device, row)
    search = checked_search(course, limit)
    return search.loud() is None and judged(device, course, search)[0] is None


def check_right(device, row, limit):
    """Raise NotRight if a row is not right."""
    told = verdict(device, row, limit=limit)
    if told[0] != "right":
        raise NotRight(told[0], told[1:])


def is_verdict(device, row, value):
    """Return whether any value is a verdict of the row, with any papers that show it."""
    course = course_of(device, row)
    if not isinstance(value, tuple) or len(value) < 2 or not isinstance(value[0], str):
        return False
    if value[0] == "loud":
        return len(value) == 2 and is_loud_run(course, value[1])
    if len(value) != 3:
        return False
    if value[0] == "waits":
        return is_waiting(device, row, value[1:])
    return value[0] == "right" and is_closed(device, row, value[1]) and is_ending(device, row, value[1], value[2])


def is_loud_run(course, value):
    """Whether any value is a run whose last move frees a device that is not quiet."""
    try:
        codes = codes_along(course, value)
    except InvalidMove:
        return False
    return len(value) > 0 and value[-1] == STEP and course.is_loud(codes[-2])


def unlike(device, row, other, *, limit=6000):
    """Return None if two rows lead to the same ends and wait alike, otherwise what one of them alone does."""
    courses = [course_of(device, row), course_of(device, other)]
    searches = [checked_search(course, limit) for course in courses]
    ends = [ends_in(course, search) for course, search in zip(courses, searches)]
    for at in range(2):
        for end, code in ends[at].items():
            if end not in ends[1 - at]:
                return ("free", at, searches[at].run(code))
    waiting = [judged(device, course, search)[0] for course, search in zip(courses, searches)]
    if (waiting[0] is None) == (waiting[1] is None):
        return None
    at = 0 if waiting[1] is None else 1
    return ("waits", at, waiting[at])


def ends_in(course, search):
    """Return the dict from all states with all steps done, without their number, and whether quiet, to their codes."""
    return {
        (course.state_of(code)[:4], course.is_quiet(code)): code for code in search.codes() if course.is_last(code)
    }

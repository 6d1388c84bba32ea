"""Moves: what is possible in a state, what is behind it, and runs of moves from the first state on."""

from takendown.courses import code_in, course_of, is_move
from takendown.errors import InvalidMove


def moves(device, row, state):
    """Return the list of all possible moves of a state."""
    course = course_of(device, row)
    return [move for move, _ in course.onward(code_in(course, state))]


def after(device, row, state, move):
    """Return the state behind a move."""
    course = course_of(device, row)
    return course.state_of(code_behind(course, code_in(course, state), move))


def is_run(device, row, value):
    """Return whether any value is a run."""
    try:
        codes_along(course_of(device, row), value)
    except InvalidMove:
        return False
    return True


def end_of(device, row, run):
    """Return the state to which a run leads."""
    course = course_of(device, row)
    return course.state_of(codes_along(course, run)[-1])


def code_behind(course, code, move):
    """Return the code behind any value that should be a possible move."""
    ahead = course.behind(code, move) if is_move(move) else None
    if ahead is None:
        raise InvalidMove(move)
    return ahead


def codes_from(course, code, chosen):
    """Return the list of the codes ahead of all moves of a list, from a code on, and behind the last one."""
    codes = [code]
    for move in chosen:
        codes.append(code_behind(course, codes[-1], move))
    return codes


def codes_along(course, run):
    """Return the list of the codes ahead of all moves of any value that should be a run, and behind the last one."""
    if not isinstance(run, list):
        raise InvalidMove(run)
    return codes_from(course, course.first(), run)

"""Waits: dead stands and rounds, in which a row comes to its end never."""

from takendown.courses import code_in, course_of, is_move
from takendown.errors import InvalidMove
from takendown.knots import judged
from takendown.links import able_in, come_to, is_dead_code, is_stuck, who_moves
from takendown.moves import codes_along, codes_from
from takendown.searches import checked_search


def movers(device, row, state):
    """Return the list of the movers that can move in a state."""
    course = course_of(device, row)
    return able_in(course, code_in(course, state))


def mover_of(move):
    """Return the mover of any value that has the form of a move of one, otherwise None."""
    return who_moves(move) if is_move(move) else None


def is_dead(device, row, state):
    """Return whether a state is a dead stand."""
    course = course_of(device, row)
    return is_dead_code(course, code_in(course, state))


def waiting_run(device, row, *, limit=6000):
    """Return None if the row does not wait, otherwise a run to a dead stand and [], or a run and a round."""
    course = course_of(device, row)
    return judged(device, course, checked_search(course, limit))[0]


def is_round(device, row, state, value):
    """Return whether any value is a round of a state."""
    course = course_of(device, row)
    return is_round_of(device, course, code_in(course, state), value)


def is_round_of(device, course, code, value):
    """Whether any value is a round of the state of a code."""
    if not isinstance(value, list) or len(value) == 0:
        return False
    try:
        codes = codes_from(course, code, value)
    except InvalidMove:
        return False
    if codes[-1] != code or not all([is_stuck(course, one) for one in codes]):
        return False
    moved = {who_moves(move): True for move in value}
    reached = {come_to(device, move): True for move in value}
    if not all([mover in moved for one in codes for mover in able_in(course, one)]):
        return False
    return all([mover in reached for mover in moved if isinstance(mover, tuple)])


def is_waiting(device, row, value):
    """Return whether any value is a tuple of a run that leads to a dead stand and [], or of a run and a round."""
    course = course_of(device, row)
    if not isinstance(value, tuple) or len(value) != 2:
        return False
    run, around = value
    try:
        end = codes_along(course, run)[-1]
    except InvalidMove:
        return False
    if isinstance(around, list) and len(around) == 0:
        return is_dead_code(course, end)
    return is_round_of(device, course, end, around)

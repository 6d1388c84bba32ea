"""Cheapest rows: all right rows of the least price out of a stock, and what shows that each cheaper one fails."""

from takendown.courses import STEP, course_of
from takendown.errors import InvalidNumber
from takendown.forms import is_tuple_of
from takendown.items import is_step
from takendown.rows import check_names
from takendown.searches import check_limit
from takendown.stages import Trail
from takendown.stocks import check_longest, check_prices, check_stock, cost_of, rows_of
from takendown.verdicts import is_loud_run
from takendown.waits import is_waiting


def cheapest(device, stock, *, wait=3, plain=1, longest=4, limit=6000):
    """Return the least price of a right row out of a stock, all right rows of this price, and a floor."""
    check_asked(device, stock, wait, plain, longest)
    check_limit(limit)
    floor = []
    trail = Trail(device, limit)
    for cost, rows in by_price(stock, wait, plain, longest):
        right, members = told_apart(trail, rows, floor)
        if len(right) > 0:
            return (cost, right, floor)
        floor.extend(members)
    return (None, [], floor)


def check_asked(device, stock, wait, plain, longest):
    """Raise the errors that cheapest and is_floor have in common."""
    check_stock(stock)
    check_prices(wait, plain)
    check_longest(longest)
    check_names(device, stock)


def by_price(stock, wait, plain, longest):
    """Return the list of tuples (price, list of all rows of this price), the prices rising."""
    found = {}
    for row in rows_of(stock, longest):
        found.setdefault(cost_of(row.steps(), wait, plain), []).append(row)
    return [(cost, found[cost]) for cost in sorted(found)]


def told_apart(trail, rows, floor):
    """Return the list of the right ones of some rows, and that of members of a floor for those that are not.

    Rows that begin as a member of the floor tells, or of the list, are not looked at.
    """
    waiting = {steps: True for steps, _, around in floor if around is not None}
    right = []
    members = []
    for row in rows:
        if begins_so(row, waiting):
            continue
        member = trail.failure_of(row)
        if member is None:
            right.append(row)
        else:
            members.append(member)
            if member[2] is not None:
                waiting[member[0]] = True
    return (right, members)


def begins_so(row, known):
    """Whether a dict has the first steps of a row, or all of them, among its keys."""
    steps = tuple(row.steps())
    return any([steps[:many] in known for many in range(len(steps) + 1)])


def is_floor(device, stock, price, floor, *, wait=3, plain=1, longest=4):
    """Return whether any value is a list of members that show that all rows of a lesser price fail."""
    check_asked(device, stock, wait, plain, longest)
    if price is not None and not is_natural(price):
        raise InvalidNumber(price)
    if not isinstance(floor, list):
        return False
    rows = list(rows_of(stock, longest))
    begun = rows_by_beginnings(rows)
    if not all([is_member(device, begun, member) for member in floor]):
        return False
    loud = {steps: True for steps, _, around in floor if around is None}
    waiting = {steps: True for steps, _, around in floor if around is not None}
    cheaper = [row for row in rows if price is None or cost_of(row.steps(), wait, plain) < price]
    return all([tuple(row.steps()) in loud or begins_so(row, waiting) for row in cheaper])


def is_natural(value):
    """Whether any value is an integer from 0."""
    return isinstance(value, int) and not isinstance(value, bool) and value >= 0


def rows_by_beginnings(rows):
    """Return the dict from all tuples of steps that are the first ones, or all, of a row, to the first such row.

    The rows come by their number of steps, so it is the row of just these steps if there is one.
    """
    found = {}
    for row in rows:
        steps = tuple(row.steps())
        for many in range(len(steps) + 1):
            found.setdefault(steps[:many], row)
    return found


def is_member(device, begun, value):
    """Whether any value is a tuple (steps, run, round) that shows that a row, or all that begin so, fail."""
    if not is_tuple_of(value, 3):
        return False
    steps, run, around = value
    if not isinstance(steps, tuple) or not all([is_step(step) for step in steps]) or steps not in begun:
        return False
    row = begun[steps]
    if around is None:
        return len(steps) == len(row) and is_loud_run(course_of(device, row), run)
    # Rows that begin alike have the same moves as long as the last one of these steps is not done.
    return is_waiting(device, row, (run, around)) and run.count(STEP) == len(steps) - 1

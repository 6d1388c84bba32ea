"""Tables: all states to which runs lead before the free, and the loud runs among them."""

from takendown.courses import code_in, course_of
from takendown.errors import InvalidState
from takendown.searches import checked_search, is_closed_list


class Table:
    """All states of a device and a row before the free. It never changes."""

    def __init__(self, device, row, *, limit=6000):
        self._course = course_of(device, row)
        self._search = checked_search(self._course, limit)

    def __contains__(self, x):
        return self._course.code_of(x) in self._search

    def __len__(self):
        return len(self._search)

    def states(self):
        """Return the list of the states."""
        return [self._course.state_of(code) for code in self._search.codes()]

    def depth(self, state):
        """Return the fewest moves of a run that leads to a state."""
        return self._search.depth(self._code_in(state))

    def run(self, state):
        """Return a run with the fewest moves that leads to a state."""
        return self._search.run(self._code_in(state))

    def _code_in(self, state):
        """Return the code of any value that should be a state of the table."""
        code = code_in(self._course, state)
        if code not in self._search:
            raise InvalidState(state)
        return code

    def loud(self):
        """Return a loud run with the fewest moves, or None."""
        return self._search.loud()

    def waiting(self):
        """Return the list of the states in which neither the row's step nor the free is possible."""
        course = self._course
        return [course.state_of(code) for code in self._search.codes() if not course.may_step(code)]


def is_closed(device, row, value):
    """Return whether any value is a closed list of states, none of them about to be freed and not quiet."""
    return is_closed_list(course_of(device, row), value)


def runs(device, row, most):
    """Yield all runs of at most so many moves, none freeing the device amid, the shorter ones first."""
    course = course_of(device, row)
    level = [([], course.first())]
    length = 0
    while len(level) > 0:
        for run, _ in level:
            yield list(run)
        length += 1
        level = longer_by_one(course, level) if length <= most else []


def longer_by_one(course, level):
    """Return the list of all tuples (run, code behind it) that are one move longer than those of a list."""
    return [
        (run + [move], ahead) for run, code in level if not course.is_freed(code)
        for move, ahead in course.onward(code)
    ]

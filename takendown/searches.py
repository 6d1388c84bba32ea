"""Searches: all codes to which moves lead from the first one, as long as the device is not freed."""

from takendown.courses import STEP
from takendown.errors import InvalidNumber, LimitExceeded
from takendown.items import is_index

MOST_LIMIT = 100000


def check_limit(value):
    """Raise InvalidNumber if any value is no limit of states."""
    if not is_index(value, MOST_LIMIT + 1) or value == 0:
        raise InvalidNumber(value)


def checked_search(course, limit):
    """Return the search of a course with any value as its limit."""
    check_limit(limit)
    return Search(course, limit)


class Search:
    """The codes of a course, each with a shortest way to it. Raises LimitExceeded if there are more than limit."""

    def __init__(self, course, limit):
        self._course = course
        first = course.first()
        self._depths = {first: 0}
        self._ways = {first: (None, None)}
        level = [first]
        while len(level) > 0:
            level = self._next_level(level, limit)

    def _next_level(self, level, limit):
        """Go on by one move from all codes of a level, and return the list of the new ones."""
        depth = self._depths[level[0]] + 1
        found = []
        for code in level:
            for move, ahead in self._course.onward(code):
                if ahead not in self._depths and not self._course.is_freed(ahead):
                    self._depths[ahead] = depth
                    self._ways[ahead] = (code, move)
                    found.append(ahead)
            if len(self._depths) > limit:
                raise LimitExceeded(limit)
        return found

    def __len__(self):
        return len(self._depths)

    def __contains__(self, x):
        return x in self._depths

    def codes(self):
        """Return the list of all codes, by their depths."""
        return list(self._depths)

    def depth(self, code):
        """Return the fewest moves of a run that leads to a code."""
        return self._depths[code]

    def run(self, code):
        """Return a run that leads to a code with the fewest moves."""
        found = []
        ahead, move = self._ways[code]
        while ahead is not None:
            found.append(move)
            ahead, move = self._ways[ahead]
        return found[::-1]

    def loud(self):
        """Return a loud run with the fewest moves, or None."""
        for code in self._depths:
            if self._course.is_loud(code):
                return self.run(code) + [STEP]
        return None


def is_closed_list(course, value):
    """Whether any value is a list of states, none twice, that has the first one and what is behind each of them.

    None of them is freed, or about to be freed and not quiet.
    """
    if not isinstance(value, list):
        return False
    codes = [course.code_of(one) for one in value]
    known = {code: True for code in codes}
    if None in known or len(known) < len(codes) or course.first() not in known:
        return False
    if any([course.is_freed(code) or course.is_loud(code) for code in codes]):
        return False
    return all([ahead in known or course.is_freed(ahead) for code in codes for _, ahead in course.onward(code)])

"""Stages: the codes of a row by the number of steps done, which are the same for all rows that begin alike."""

from takendown.courses import STEP, course_of
from takendown.errors import LimitExceeded
from takendown.knots import judged


def entries(course, before):
    """Return the dict from all codes behind a step from a stage to the ways there, or from the first code."""
    if before is None:
        return {course.first(): (None, None, 0)}
    return {
        course.behind_step(code): (code, STEP, before.depth(code) + 1)
        for code in before.codes() if course.may_step(code)
    }


class Stage:
    """The codes with some steps done, behind those of the stage of one step less, None if there is none such.

    Raises LimitExceeded if there are more than limit codes here and in the stages before.
    """

    def __init__(self, course, before, limit):
        self._before = before
        self._limit = limit
        self._earlier = 0 if before is None else before.many()
        # The code and the move ahead of each code, and the number of moves of the run there
        self._ways = entries(course, before)
        level = list(self._ways)
        while len(level) > 0:
            level = self._next_level(course, level)

    def _next_level(self, course, level):
        """Go on from all codes of a level by a move that is not the row's, and return the list of the new codes."""
        found = []
        for code in level:
            depth = self.depth(code) + 1
            for move, ahead in course.onward(code):
                if move != STEP and ahead not in self._ways:
                    self._ways[ahead] = (code, move, depth)
                    found.append(ahead)
            if self.many() > self._limit:
                raise LimitExceeded(self._limit)
        return found

    def many(self):
        """Return the number of the codes here and in the stages before."""
        return len(self._ways) + self._earlier

    def codes(self):
        """Return the list of the codes."""
        return list(self._ways)

    def depth(self, code):
        """Return the number of moves of the run that leads to a code."""
        return self._ways[code][2]

    def run(self, code):
        """Return a run that leads to a code."""
        found = []
        stage = self
        ahead, move, _ = self._ways[code]
        while ahead is not None:
            found.append(move)
            if move == STEP:
                stage = stage._before
            ahead, move, _ = stage._ways[ahead]
        return found[::-1]


def same_steps(steps, others):
    """Return how many of the first steps of two tuples are the same."""
    many = 0
    while many < min(len(steps), len(others)) and steps[many] == others[many]:
        many += 1
    return many


def loud_failure(course, steps, stage):
    """Return a tuple (steps, run, None) with a loud run of a row with all of its steps done, None if there is none."""
    for code in stage.codes():
        if course.is_loud(code):
            return (steps, stage.run(code) + [STEP], None)
    return None


class Trail:
    """The stages of the row that was looked at last: the next one goes on from those that it has in common."""

    def __init__(self, device, limit):
        self._device = device
        self._limit = limit
        self._steps = ()
        self._stages = []

    def failure_of(self, row):
        """Return a tuple (steps, run, round) that shows that a row fails, None if it is right.

        Waiting comes first: it shows that all rows fail that begin as this one up to the step at which it waits.
        """
        steps = tuple(row.steps())
        course = course_of(self._device, row)
        if len(self._stages) == 0:
            self._stages.append(Stage(course, None, self._limit))
        same = same_steps(self._steps, steps)
        self._stages = self._stages[:same + 1]
        for here in range(same, len(steps)):
            self._steps = steps[:here]
            waiting = judged(self._device, course, self._stages[here])[0]
            if waiting is not None:
                return (steps[:here + 1],) + waiting
            self._stages.append(Stage(course, self._stages[here], self._limit))
        self._steps = steps
        return loud_failure(course, steps, self._stages[-1])

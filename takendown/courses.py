"""Courses: the states of a device and a row as codes, and the moves that lead from one to the next."""

from takendown.errors import InvalidState
from takendown.forms import is_tuple_of, united
from takendown.items import is_index, is_name
from takendown.rows import fits, steps_in
from takendown.schemes import Scheme, step_change

STEP = ("step",)
MOST_PLACES = 8


def is_move(value):
    """Whether any value has the form of a move of states."""
    if not isinstance(value, tuple) or len(value) == 0 or not isinstance(value[0], str):
        return False
    if value[0] == "pass":
        return len(value) == 5 and isinstance(value[4], bool) and is_single_move(value[:4])
    return is_single_move(value)


def is_single_move(value):
    """Whether a tuple that begins with a text has the form of a move of counted states."""
    word = value[0]
    if word == "step":
        return len(value) == 1
    if len(value) < 2 or not is_name(value[1]):
        return False
    if word == "go":
        return len(value) == 3 and is_index(value[2], 2)
    if word == "pass":
        return len(value) == 4 and is_index(value[2], MOST_PLACES) and is_index(value[3], 2)
    return len(value) == 2 and word in ("begin", "enter", "come")


def named_ahead(row, done, word):
    """Return the ascending list of the names in those of the first done steps of a row that have a word."""
    return sorted({step[1] for step in row.steps()[:done] if step[0] == word})


def begun(bits, row, done):
    """Return the code of what a number of steps done tells: the number, the gates closed, the locks of the row."""
    closed = sum([bits[("gate", gate)] for gate in named_ahead(row, done, "close")])
    return bits[("done", "")] * done + closed + sum([bits[("lock", lock)] for lock in row.held(done)])


def course_of(device, row, most=None):
    """Return the course of a device and a row; raises UnknownName as fits."""
    shelf = device.shelf()
    key = (most, steps_in(row))
    course = shelf.look_up(key)
    if course is None:
        course = Course(device, row, most)
        shelf.store(key, course)
    return course


def code_in(course, value):
    """Return the code of any value that should be a state."""
    code = course.code_of(value)
    if code is None:
        raise InvalidState(value)
    return code


class Course:
    """A device and a row whose states are written as codes: counted ones of at most most users, if it is told."""

    def __init__(self, device, row, most=None):
        fits(device, row)
        scheme = device.scheme() if most is None else Scheme(device, most)
        bits = scheme.bits
        self._form = scheme.form
        self._rules = scheme.rules
        self._by_move = scheme.by_move
        self._low = bits[("done", "")]
        self._shift = self._low.bit_length() - 1
        self._all_done = len(row)
        self._begun = [begun(bits, row, done) for done in range(len(row) + 2)]
        self._unbarred = [
            ~sum([bits[("armed", work)] for work in named_ahead(row, done, "bar")]) for done in range(len(row) + 2)
        ]
        # Behind them comes the free, which is always possible and changes nothing else.
        self._steps = [step_change(scheme, device, step) for step in row.steps()] + [(0, 0, 0, 0)]
        self._gates = sum([bits[("gate", gate)] for gate in device.gates()])
        inside = sum([scheme.inside_bits(device[name]) for name in device.guests() + device.crowds()])
        works = sum([bits[("armed", work)] + scheme.fields[("place", work)] for work in device.works()])
        self._asked = self._gates | inside | works
        self._first = scheme.start

    def first(self):
        """Return the code of the first state, in which nobody is anywhere, counted or not."""
        return self._first

    def code_of(self, value):
        """Return the code of any value, None if it is no state."""
        if not is_tuple_of(value, 5) or not is_index(value[4], len(self._begun)):
            return None
        works, flags, guests, crowds, done = value
        return united([self._begun[done], self._form.code_of(works, flags, guests, crowds)])

    def state_of(self, code):
        """Return the state that has a code."""
        return self._form.state_of(code, self.done(code))

    def done(self, code):
        """Return the number of the steps done."""
        return code >> self._shift

    def is_freed(self, code):
        """Return whether the device is freed."""
        return self.done(code) > self._all_done

    def is_quiet(self, code):
        """Return whether the state of a code is quiet."""
        return code & self._asked == self._gates

    def is_last(self, code):
        """Return whether all steps are done, and the device is not freed."""
        return self.done(code) == self._all_done

    def is_loud(self, code):
        """Return whether the free is next, and the state is not quiet."""
        return self.is_last(code) and not self.is_quiet(code)

    def may_step(self, code):
        """Return whether the row's step, or the free, is possible."""
        done = code >> self._shift
        if done > self._all_done:
            return False
        mask, want, _, _ = self._steps[done]
        return code & mask == want

    def behind_step(self, code):
        """Return the code behind the row's step, or the free."""
        _, _, clear, put = self._steps[self.done(code)]
        return (code & ~clear | put) + self._low

    def onward(self, code):
        """Return the list of tuples (move, code behind it) of all possible moves, in their order."""
        unbarred = self._unbarred[code >> self._shift]
        found = []
        for move, mask, want, some, keep, put, add in self._rules:
            if code & mask == want and (some == 0 or code & some > 0):
                found.append((move, (code & keep | put & unbarred) + add))
        if self.may_step(code):
            found.append((STEP, self.behind_step(code)))
        return found

    def behind(self, code, move):
        """Return the code behind a move of the right form, None if it is not possible."""
        if move == STEP:
            return self.behind_step(code) if self.may_step(code) else None
        for _, mask, want, some, keep, put, add in self._by_move.get(move, ()):
            if code & mask == want and (some == 0 or code & some > 0):
                return (code & keep | put & self._unbarred[self.done(code)]) + add
        return None

"""Courses: the states of a device and a row as codes, and the moves that lead from one to the next."""

from takendown.items import is_index, is_name
from takendown.rows import fits
from takendown.schemes import Scheme, step_change
from takendown.states import closed_gates, first_state, holdings

STEP = ("step",)
MOST_PLACES = 8


def is_move(value):
    """Whether any value has the form of a move of states."""
    if not isinstance(value, tuple) or len(value) == 0 or not isinstance(value[0], str):
        return False
    if value[0] == "pass":
        return len(value) == 5 and isinstance(value[4], bool) and is_single_move(value[:4])
    return is_single_move(value)


def is_single_move(value):
    """Whether a tuple that begins with a text has the form of a move of counted states."""
    word = value[0]
    if word == "step":
        return len(value) == 1
    if len(value) < 2 or not is_name(value[1]):
        return False
    if word == "go":
        return len(value) == 3 and is_index(value[2], 2)
    if word == "pass":
        return len(value) == 4 and is_index(value[2], MOST_PLACES) and is_index(value[3], 2)
    return len(value) == 2 and word in ("begin", "enter", "come")


def barred_works(row, done):
    """Return the ascending list of the works that the first done steps bar."""
    return sorted({name for word, name in row.steps()[:done] if word == "bar"})


def occupied(numbers):
    """Return the tuple of the rising tuples of the places that are occupied, for tuples of numbers of users."""
    return tuple([tuple([place for place, many in enumerate(one) if many > 0]) for one in numbers])


class Course:
    """A device and a row whose states are written as codes: counted ones of at most most users, if it is told."""

    def __init__(self, device, row, most=None):
        fits(device, row)
        self._device = device
        self._row = row
        self._users = most
        scheme = device.scheme() if most is None else Scheme(device, most)
        bits = scheme.bits
        self._bits = bits
        self._fields = scheme.fields
        self._rules = scheme.rules
        self._low = bits[("done", "")]
        self._shift = self._low.bit_length() - 1
        self._closed = [sum([bits[("gate", gate)] for gate in closed_gates(row, done)]) for done in range(len(row) + 2)]
        self._unbarred = [
            ~sum([bits[("armed", work)] for work in barred_works(row, done)]) for done in range(len(row) + 2)
        ]
        # Behind them comes the free, which is always possible and changes nothing else.
        self._steps = [step_change(scheme, device, step) for step in row.steps()] + [(0, 0, 0, 0)]
        self._gates = sum([bits[("gate", gate)] for gate in device.gates()])
        inside = sum([scheme.inside_bits(device[name]) for name in device.guests() + device.crowds()])
        works = sum([bits[("armed", work)] + scheme.fields[("place", work)] for work in device.works()])
        self._asked = self._gates | inside | works

    def first(self):
        """Return the code of the first state, in which nobody is anywhere, counted or not."""
        return self.code_of(first_state(self._device, self._row))

    def code_of(self, state):
        """Return the code of a state."""
        works, flags, guests, crowds, done = state
        places = [place for _, place in works] + list(guests)
        device, bits = self._device, self._bits
        code = self._low * done + self._closed[done] + self._code_of_crowds(crowds)
        code = code + sum([bits[("flag", flag)] for flag, on in zip(device.flags(), flags) if on])
        code = code + sum([bits[("armed", work)] for work, one in zip(device.works(), works) if one[0]])
        for name, place in zip(device.works() + device.guests(), places):
            if place is not None:
                code = code + bits[("place", name)] * (place + 1)
        return code + sum([bits[("lock", lock)] for lock, _ in holdings(device, self._row, state)])

    def _code_of_crowds(self, crowds):
        """Return what the places or numbers of users add to a code."""
        bits, names = self._bits, self._device.crowds()
        if self._users is None:
            return sum([bits[("users", name, place)] for name, one in zip(names, crowds) for place in one])
        code = bits[("room", "")] * (self._users - sum([sum(one) for one in crowds]))
        for name, one in zip(names, crowds):
            code = code + sum([bits[("users", name, place)] * many for place, many in enumerate(one)])
        return code

    def state_of(self, code):
        """Return the state that has a code."""
        device = self._device
        works = tuple([(self._told(code, ("armed", work)) == 1, self._place(code, work)) for work in device.works()])
        flags = tuple([self._told(code, ("flag", flag)) == 1 for flag in device.flags()])
        guests = tuple([self._place(code, guest) for guest in device.guests()])
        crowds = tuple([
            tuple([self._told(code, ("users", name, at)) for at in range(len(device[name]))])
            for name in device.crowds()
        ])
        if self._users is None:
            crowds = occupied(crowds)
        return (works, flags, guests, crowds, self.done(code))

    def _told(self, code, key):
        """Return the number that a code tells under a key."""
        return (code & self._fields[key]) // self._bits[key]

    def _place(self, code, name):
        """Return the place of a work or guest, None if it does not run or is outside."""
        told = self._told(code, ("place", name))
        return None if told == 0 else told - 1

    def done(self, code):
        """Return the number of the steps done."""
        return code >> self._shift

    def is_freed(self, code):
        """Return whether the device is freed."""
        return self.done(code) > len(self._row)

    def is_quiet(self, code):
        """Return whether the state of a code is quiet."""
        return code & self._asked == self._gates

    def is_last(self, code):
        """Return whether all steps are done, and the device is not freed."""
        return self.done(code) == len(self._row)

    def is_loud(self, code):
        """Return whether the free is next, and the state is not quiet."""
        return self.is_last(code) and not self.is_quiet(code)

    def may_step(self, code):
        """Return whether the row's step, or the free, is possible."""
        if self.is_freed(code):
            return False
        mask, want, _, _ = self._steps[self.done(code)]
        return code & mask == want

    def onward(self, code):
        """Return the list of tuples (move, code behind it) of all possible moves, in their order."""
        unbarred = self._unbarred[code >> self._shift]
        found = []
        for move, mask, want, some, keep, put, add in self._rules:
            if code & mask == want and (some == 0 or code & some > 0):
                found.append((move, (code & keep | put & unbarred) + add))
        if self.may_step(code):
            _, _, clear, put = self._steps[self.done(code)]
            found.append((STEP, (code & ~clear | put) + self._low))
        return found

    def behind(self, code, move):
        """Return the code behind a move of the right form, None if it is not possible."""
        for possible, ahead in self.onward(code):
            if possible == move:
                return ahead
        return None

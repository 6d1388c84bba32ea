"""Rows: the steps that take a device down."""

from takendown.bodies import are_alike
from takendown.errors import InvalidNumber, InvalidStep, UnknownName
from takendown.items import STEP_KINDS, held_along, is_index, is_step, wrong_locks

MOST_STEPS = 8

KINDS = ("works", "gates", "flags", "locks")


def check_steps(steps):
    """Raise InvalidStep if a tuple of any values is no row."""
    for index, step in enumerate(steps):
        if not is_step(step):
            raise InvalidStep(index)
    if len(steps) > MOST_STEPS:
        raise InvalidStep(None)
    for index, wrong in enumerate(wrong_locks(steps, ())):
        if wrong:
            raise InvalidStep(index)


def gives_right(steps):
    """Whether a tuple of steps takes and gives as a row must."""
    return True not in wrong_locks(steps, ())


def steps_in(value):
    """Return the tuple of the steps of a row, or a tuple as it is."""
    if isinstance(value, Row):
        return value._steps
    if not isinstance(value, tuple):
        raise InvalidStep(None)
    return value


class Row:
    """At most eight steps, behind the last of which the device is freed. It never changes."""

    def __init__(self, *steps):
        check_steps(steps)
        self._steps = steps
        # Behind the last step, and behind the free, the row holds nothing.
        self._held = held_along(steps, ()) + [(), ()]

    @staticmethod
    def shut(work):
        """Return the row that bars a work and halts it."""
        return Row(("bar", work), ("halt", work))

    @staticmethod
    def locked(lock, *steps):
        """Return the row that takes a lock, does the steps, and gives the lock."""
        return Row(("take", lock), *steps, ("give", lock))

    def __add__(self, other):
        steps = self._steps + steps_in(other)
        return Row(*steps)

    def __radd__(self, other):
        steps = steps_in(other) + self._steps
        return Row(*steps)

    def __contains__(self, x):
        return is_step(x) and x in self._steps

    def __getitem__(self, at):
        if not is_index(at, len(self._steps)):
            raise InvalidNumber(at)
        return self._steps[at]

    def __iter__(self):
        return iter(self._steps)

    def __len__(self):
        return len(self._steps)

    def __eq__(self, other):
        return isinstance(other, Row) and are_alike(self, other) and self._steps == other._steps

    def steps(self):
        """Return the list of the steps."""
        return list(self._steps)

    def begins(self, other):
        """Return whether the steps of this row are the first ones of another row."""
        return self._steps == other._steps[:len(self._steps)]

    def without(self, index):
        """Return the row without one of its steps."""
        if not is_index(index, len(self._steps)):
            raise InvalidNumber(index)
        steps = self._steps[:index] + self._steps[index + 1:]
        return Row(*steps)

    def held(self, done):
        """Return the tuple of the locks that the first done steps took and did not give."""
        if not is_index(done, len(self._held)):
            raise InvalidNumber(done)
        return self._held[done]

    def names(self, kind):
        """Return the ascending list of the works, gates, flags or locks that the steps name."""
        if not isinstance(kind, str) or kind not in KINDS:
            raise UnknownName(kind)
        return sorted({step[1] for step in self._steps if STEP_KINDS[step[0]] == kind})


def fits(device, row):
    """Raise UnknownName with the name in the first step that the device does not have."""
    check_names(device, row.steps())


def check_names(device, steps):
    """Raise UnknownName with the name in the first one of some steps that the device does not have."""
    known = {
        "works": device.works(),
        "gates": device.gates(),
        "flags": device.flags(),
        "locks": device.locks(),
    }
    for word, name in steps:
        if name not in known[STEP_KINDS[word]]:
            raise UnknownName(name)

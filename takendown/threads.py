"""Threads: the bodies of works, guests and crowds, with their names and gates."""

from takendown.bodies import Body, are_alike
from takendown.errors import InvalidItem, NotACrowd, UnknownName
from takendown.items import flat, is_name

CROWD_WORDS = ("use", "start", "test", "choose", "piece")


def check_name(value):
    """Raise UnknownName if any value is no name."""
    if not is_name(value):
        raise UnknownName(value)


def check_pieceless(items):
    """Raise InvalidItem with the number of the first piece of a body."""
    for place, item in enumerate(flat(items)):
        if item[0] == "piece":
            raise InvalidItem(place)


def check_crowd(name, items):
    """Raise NotACrowd with the number of the first item of a body that a crowd may not have."""
    for place, item in enumerate(flat(items)):
        if item[0] not in CROWD_WORDS:
            raise NotACrowd(name, place)


class Work(Body):
    """A body that runs when it is started. It never changes."""

    def __init__(self, name, items):
        check_name(name)
        super().__init__(items)
        check_pieceless(items)
        self._label = name

    @property
    def label(self):
        """The name."""
        return self._label

    def kind(self):
        """Return the text work."""
        return "work"

    def __eq__(self, other):
        if not isinstance(other, Work) or not are_alike(self, other):
            return False
        return self._label == other._label and self._code == other._code


class Gated(Body):
    """A body of those who come in by a gate. It never changes."""

    def __init__(self, name, gate, items):
        check_name(name)
        check_name(gate)
        super().__init__(items)
        self._label = name
        self._gate = gate

    @property
    def gate(self):
        """The name of the gate."""
        return self._gate

    def __eq__(self, other):
        return are_equal(self, other)


def are_equal(one, other):
    """Whether a guest or crowd and any value are of one class and alike."""
    if not isinstance(other, Gated) or not are_alike(one, other):
        return False
    return one._label == other._label and one._gate == other._gate and one._code == other._code


class Guest(Gated):
    """A body of guests, of which one at a time comes in. It never changes."""

    def __init__(self, name, gate, items):
        super().__init__(name, gate, items)
        check_pieceless(items)

    @property
    def label(self):
        """The name."""
        return self._label

    def kind(self):
        """Return the text guest."""
        return "guest"

    def __eq__(self, other):
        return are_equal(self, other)


class Crowd(Gated):
    """A body of users, of which any number come in. It never changes."""

    def __init__(self, name, gate, items):
        super().__init__(name, gate, items)
        check_crowd(name, items)

    @property
    def label(self):
        """The name."""
        return self._label

    def kind(self):
        """Return the text crowd."""
        return "crowd"

    def __eq__(self, other):
        return are_equal(self, other)

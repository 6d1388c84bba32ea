"""Benches: devices and rows under names, to ask about two of them."""

from takendown.devices import Device
from takendown.errors import InvalidDevice, LimitExceeded, UnknownName
from takendown.items import is_name
from takendown.rows import Row
from takendown.searches import check_limit
from takendown.threads import check_name
from takendown.verdicts import verdict

MOST_THINGS = 12
FIRST_BOUND = 6000


class Bench:
    """Keeps devices and rows under names, and the limit of states with which it answers."""

    def __init__(self):
        self._things = {}
        self._bound = FIRST_BOUND

    @property
    def bound(self):
        """The limit of states."""
        return self._bound

    @bound.setter
    def bound(self, value):
        check_limit(value)
        self._bound = value

    def bind(self, bound):
        """Assign the limit of states."""
        self.bound = bound

    def __len__(self):
        return len(self._things)

    def __iter__(self):
        raise TypeError("a bench is not iterated over")

    def __contains__(self, x):
        return is_name(x) and x in self._things

    def __getitem__(self, at):
        if not is_name(at) or at not in self._things:
            raise UnknownName(at)
        return self._things[at]

    def __setitem__(self, at, worth):
        check_name(at)
        if not isinstance(worth, Device) and not isinstance(worth, Row):
            raise InvalidDevice("bench", at)
        if at not in self._things and len(self._things) >= MOST_THINGS:
            raise LimitExceeded(MOST_THINGS)
        self._things[at] = worth

    def keep(self, name, thing):
        """Keep a device or a row under a name, in the place of an earlier thing."""
        self[name] = thing

    def drop(self, name):
        """Take away what is kept under a name."""
        if name not in self:
            raise UnknownName(name)
        del self._things[name]

    def names(self):
        """Return the ascending list of the names under which something is kept."""
        return sorted(self._things)

    def pair(self, name, other):
        """Return the device and the row that are kept under two names."""
        if not isinstance(self[name], Device):
            raise UnknownName(name)
        if not isinstance(self[other], Row):
            raise UnknownName(other)
        return (self[name], self[other])

    def ask(self, name, other):
        """Return the verdict of the device and the row of two names."""
        device, row = self.pair(name, other)
        return verdict(device, row, limit=self._bound)

"""Devices: works, guests and crowds together, with their flags, locks and gates."""

from takendown.bodies import are_alike
from takendown.errors import InvalidDevice, InvalidItem, UnknownName
from takendown.items import is_name, may_start
from takendown.schemes import Scheme
from takendown.shelves import Shelf
from takendown.threads import Crowd, Guest, Work

MOST_WORKS = 4
MOST_GUESTS = 2
MOST_CROWDS = 2
MOST_FLAGS = 4
MOST_LOCKS = 3


def is_named(value, least, most):
    """Whether any value is a dict with so many entries, all of whose keys are names."""
    if not isinstance(value, dict) or not least <= len(value) <= most:
        return False
    return all([is_name(name) for name in value])


def is_gated_pair(value):
    """Whether any value is a tuple of a gate and one thing more."""
    return isinstance(value, tuple) and len(value) == 2 and is_name(value[0])


def is_choice(value, names):
    """Whether any value is a tuple of unlike ones of some names."""
    if not isinstance(value, tuple) or not all([is_name(name) for name in value]):
        return False
    return all([name in names for name in value]) and len(set(value)) == len(value)


def made_works(works):
    """Return the dict from the names of works to the works."""
    if not is_named(works, 1, MOST_WORKS):
        raise InvalidDevice("works", None)
    made = {}
    for name in sorted(works):
        try:
            made[name] = Work(name, works[name])
        except InvalidItem as wrong:
            raise InvalidDevice("works", name) from wrong
    return made


def made_gated(part, entries, most, taken):
    """Return the dict from the names of guests or crowds to these; none has a name that is taken."""
    if entries is None:
        return {}
    if not is_named(entries, 0, most):
        raise InvalidDevice(part, None)
    made = {}
    for name in sorted(entries):
        pair = entries[name]
        if name in taken or not is_gated_pair(pair):
            raise InvalidDevice(part, name)
        gate, items = pair
        made[name] = made_one(part, name, gate, items)
    return made


def made_one(part, name, gate, items):
    """Return one guest or crowd, as part tells."""
    try:
        if part == "guests":
            return Guest(name, gate, items)
        return Crowd(name, gate, items)
    except InvalidItem as wrong:
        raise InvalidDevice(part, name) from wrong


def check_works(threads, works):
    """Raise InvalidDevice with the first work that a thread starts or cancels and that is none."""
    strange = sorted({work for name in threads for work in threads[name].works() if work not in works})
    if len(strange) > 0:
        raise InvalidDevice("works", strange[0])


class Device:
    """Works, guests and crowds that have flags, locks and gates in common. It never changes."""

    def __init__(self, works, guests=None, crowds=None, *, armed=(), flags=()):
        own = made_works(works)
        single = made_gated("guests", guests, MOST_GUESTS, own)
        many = made_gated("crowds", crowds, MOST_CROWDS, {**own, **single})
        threads = {**own, **single, **many}
        check_works(threads, own)
        self._works = sorted(own)
        self._guests = sorted(single)
        self._crowds = sorted(many)
        self._threads = threads
        self._flags = sorted({flag for name in threads for flag in threads[name].flags()})
        self._locks = sorted({lock for name in threads for lock in threads[name].locks()})
        if not is_choice(armed, self._works):
            raise InvalidDevice("armed", None)
        if not is_choice(flags, self._flags) or len(self._flags) > MOST_FLAGS:
            raise InvalidDevice("flags", None)
        if len(self._locks) > MOST_LOCKS:
            raise InvalidDevice("locks", None)
        self._armed = tuple(sorted(armed))
        self._flagged = tuple(sorted(flags))
        self._scheme = Scheme(self)
        self._shelf = Shelf()

    @property
    def armed(self):
        """The ascending tuple of the works armed at first."""
        return self._armed

    @property
    def flagged(self):
        """The ascending tuple of the flags set at first."""
        return self._flagged

    def __len__(self):
        return len(self._threads)

    def __iter__(self):
        raise TypeError("a device is not iterated over")

    def __contains__(self, x):
        return is_name(x) and x in self._threads

    def __getitem__(self, at):
        if not is_name(at) or at not in self._threads:
            raise UnknownName(at)
        return self._threads[at]

    def __eq__(self, other):
        if not isinstance(other, Device) or not are_alike(self, other) or self._threads != other._threads:
            return False
        return self._armed == other._armed and self._flagged == other._flagged

    def works(self):
        """Return the ascending list of the works."""
        return list(self._works)

    def guests(self):
        """Return the ascending list of the guests."""
        return list(self._guests)

    def crowds(self):
        """Return the ascending list of the crowds."""
        return list(self._crowds)

    def threads(self):
        """Return the ascending list of all works, guests and crowds."""
        return sorted(self._threads)

    def flags(self):
        """Return the ascending list of the flags."""
        return list(self._flags)

    def locks(self):
        """Return the ascending list of the locks."""
        return list(self._locks)

    def gates(self):
        """Return the ascending list of the gates."""
        return sorted({self._threads[name].gate for name in self._guests + self._crowds})

    def users_of(self, gate):
        """Return the ascending list of the guests and crowds of a gate."""
        if not is_name(gate) or gate not in self.gates():
            raise UnknownName(gate)
        return [name for name in sorted(self._guests + self._crowds) if self._threads[name].gate == gate]

    def scheme(self):
        """Return how states are written as integers."""
        return self._scheme

    def shelf(self):
        """Return where what is made for the device is kept."""
        return self._shelf

    def starters(self, work):
        """Return the ascending list of the threads that may start a work."""
        if not is_name(work) or work not in self._works:
            raise UnknownName(work)
        return [name for name in sorted(self._threads) if work in may_start(self._threads[name].code)]


def codes_of(device, names):
    """Return the dict from some threads of a device to their items."""
    return {name: device[name].code for name in names}


def gated_codes_of(device, names):
    """Return the dict from some guests or crowds of a device to their gates and items."""
    return {name: (device[name].gate, device[name].code) for name in names}

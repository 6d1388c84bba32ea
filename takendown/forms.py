"""Forms: which bits of a code tell each part of a state, to read any values as states and to write states."""

from takendown.items import is_index


def is_tuple_of(value, many):
    """Whether any value is a tuple of so many members."""
    return isinstance(value, tuple) and len(value) == many


def united(codes):
    """Return the code of several parts of a state, None if one is None, or if two hold the same lock."""
    found = 0
    for code in codes:
        # But for locks no two parts have a bit in common.
        if code is None or found & code > 0:
            return None
        found = found | code
    return found


def codes_of_places(thread, bits):
    """Return the list of the codes of all places of a work or guest, with the locks held there."""
    first = bits[("place", thread.label)]
    held = [sum([bits[("lock", lock)] for lock in thread.held(place)]) for place in range(len(thread))]
    return [first * (place + 1) + locks for place, locks in enumerate(held)]


def code_of_place(value, codes):
    """Return the code of None, or of a place out of the codes of all places; of any other value None."""
    if value is None:
        return 0
    return codes[value] if is_index(value, len(codes)) else None


def code_of_work(value, armed, codes):
    """Return the code of a tuple (armed, place); of any other value None."""
    if not is_tuple_of(value, 2) or not isinstance(value[0], bool):
        return None
    code = code_of_place(value[1], codes)
    return code + armed if value[0] and code is not None else code


def code_of_flags(value, bits):
    """Return the code of a tuple of as many bools as flags; of any other value None."""
    if not is_tuple_of(value, len(bits)) or not all([isinstance(one, bool) for one in value]):
        return None
    return sum([bit for one, bit in zip(value, bits) if one])


def code_of_places(value, bits):
    """Return the code of a rising tuple of places; of any other value None."""
    if not isinstance(value, tuple):
        return None
    code = 0
    for place in value:
        # The bits rise with the places, so a higher one is above the sum of all lower ones.
        if not is_index(place, len(bits)) or bits[place] <= code:
            return None
        code = code + bits[place]
    return code


def code_of_counts(value, bits, most):
    """Return the code of a tuple of a number of users, at most most, for each place; of any other value None."""
    if not is_tuple_of(value, len(bits)) or not all([is_index(many, most + 1) for many in value]):
        return None
    return sum([many * bit for many, bit in zip(value, bits)])


def place_in(code, field, bit):
    """Return the place that a code tells in a field, or None."""
    told = code & field
    return told // bit - 1 if told > 0 else None


class Form:
    """The bits of all parts of a device's states, but the number of steps done; most as for a Scheme."""

    def __init__(self, device, bits, fields, most):
        singles = device.works() + device.guests()
        self._users = most
        self._room = bits.get(("room", ""), 0)
        self._armed = [bits[("armed", name)] for name in device.works()]
        self._flags = [bits[("flag", flag)] for flag in device.flags()]
        self._places = [codes_of_places(device[name], bits) for name in singles]
        self._fields = [(fields[("place", name)], bits[("place", name)]) for name in singles]
        keys = [[("users", name, place) for place in range(len(device[name]))] for name in device.crowds()]
        self._spots = [[bits[key] for key in one] for one in keys]
        self._counts = [[(fields[key], bits[key]) for key in one] for one in keys]

    def code_of(self, works, flags, guests, crowds):
        """Return the code of any values, None if they are no parts of a state."""
        many = len(self._armed)
        if not is_tuple_of(works, many) or not is_tuple_of(guests, len(self._places) - many):
            return None
        codes = [code_of_work(one, armed, places) for one, armed, places in zip(works, self._armed, self._places)]
        codes.extend([code_of_place(one, places) for one, places in zip(guests, self._places[many:])])
        return united(codes + [code_of_flags(flags, self._flags), self._code_of_crowds(crowds)])

    def _code_of_crowds(self, crowds):
        """Return the code of any value, None if it does not tell of each crowd where its users are."""
        if not is_tuple_of(crowds, len(self._spots)):
            return None
        if self._users is None:
            return united([code_of_places(one, bits) for one, bits in zip(crowds, self._spots)])
        code = united([code_of_counts(one, bits, self._users) for one, bits in zip(crowds, self._spots)])
        if code is None:
            return None
        room = self._users - sum([sum(one) for one in crowds])
        return code + self._room * room if room >= 0 else None

    def state_of(self, code, done):
        """Return the state of a code that tells the number of steps done."""
        many = len(self._armed)
        places = [place_in(code, field, bit) for field, bit in self._fields]
        works = tuple([(code & armed > 0, place) for armed, place in zip(self._armed, places)])
        flags = tuple([code & flag > 0 for flag in self._flags])
        return (works, flags, tuple(places[many:]), self._crowds_of(code), done)

    def _crowds_of(self, code):
        """Return what a code tells of the crowds: occupied places, or the numbers of users at all places."""
        if self._users is None:
            return tuple([tuple([at for at, bit in enumerate(bits) if code & bit > 0]) for bits in self._spots])
        return tuple([tuple([(code & field) // bit for field, bit in one]) for one in self._counts])

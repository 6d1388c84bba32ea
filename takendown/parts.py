"""Parts: devices put together of two, and rows merged of two."""

from takendown.devices import Device, codes_of, gated_codes_of
from takendown.errors import InvalidDevice, InvalidStep
from takendown.rows import MOST_STEPS, Row, gives_right


def joined(device, other):
    """Return the device with the threads of both."""
    common = sorted(set(names_of(device)) & set(names_of(other)))
    if len(common) > 0:
        raise InvalidDevice("parts", common[0])
    return Device(
        both(codes_of(device, device.works()), codes_of(other, other.works())),
        both(gated_codes_of(device, device.guests()), gated_codes_of(other, other.guests())),
        both(gated_codes_of(device, device.crowds()), gated_codes_of(other, other.crowds())),
        armed=device.armed + other.armed,
        flags=device.flagged + other.flagged,
    )


def both(entries, others):
    """Return the dict that has the entries of two."""
    return {**entries, **others}


def names_of(device):
    """Return the list of all names of threads, flags, locks and gates of a device."""
    return device.threads() + device.flags() + device.locks() + device.gates()


def merges(row, other):
    """Yield all rows that have the steps of both, each's in its order, by the indexes of the steps of row."""
    many = len(row) + len(other)
    if many > MOST_STEPS:
        raise InvalidStep(None)
    for places in rising_choices(many, len(row)):
        steps = merged(row, other, places)
        if gives_right(steps):
            yield Row(*steps)


def rising_choices(many, length):
    """Return the list of all rising tuples of so many indexes below many, ascending."""
    found = [()]
    for _ in range(length):
        found = [chosen + (index,) for chosen in found for index in range(behind_last(chosen), many)]
    return found


def behind_last(chosen):
    """Return the least index that is above all of a rising tuple."""
    return chosen[-1] + 1 if len(chosen) > 0 else 0


def merged(row, other, places):
    """Return the tuple of the steps of two rows, those of the first one at some places."""
    found = []
    for index in range(len(row) + len(other)):
        ahead = len([place for place in places if place < index])
        found.append(row[ahead] if index in places else other[index - ahead])
    return tuple(found)

"""Edits: devices with a test less, a lock less or a work more, and what a right row does not need."""

from takendown.devices import Device, codes_of, gated_codes_of
from takendown.errors import InvalidDevice, InvalidEdit, InvalidStep, UnknownName
from takendown.items import FLAG_WORDS, branches, flat, is_index, is_name, names_in
from takendown.verdicts import check_right, is_right

TEST_WORDS = ("yes", "no", "open")


def edited(device, edit):
    """Return the device that comes of an edit."""
    if not is_meant(device, edit):
        raise InvalidEdit(edit)
    try:
        return made_by(device, edit)
    except InvalidDevice as wrong:
        raise InvalidEdit(edit) from wrong


def is_meant(device, value):
    """Whether any value is an edit by its words, and names what the device has, or a work that it has not."""
    if not isinstance(value, tuple) or len(value) < 2 or not isinstance(value[0], str) or not is_name(value[1]):
        return False
    word, name = value[:2]
    if word == "unlock":
        return len(value) == 2 and name in device.locks()
    if len(value) != 3:
        return False
    if word == "work":
        return name not in device
    return word in TEST_WORDS and name in device and is_test(device[name], value[2])


def is_test(body, place):
    """Whether any value is a place of a body at which a test stands."""
    return is_index(place, len(body)) and body.item(place)[0] == "test"


def made_by(device, edit):
    """Return the device that comes of an edit; raises InvalidDevice if none does."""
    word, name = edit[:2]
    if word == "work":
        return with_work(device, name, edit[2])
    codes = codes_of(device, device.threads())
    if word == "unlock":
        return with_codes(device, {thread: unlocked(codes[thread], name) for thread in codes})
    return with_codes(device, {**codes, name: without_test(codes[name], edit[2], word)})


def with_work(device, name, body):
    """Return the device with one work more."""
    works = codes_of(device, device.works())
    guests = gated_codes_of(device, device.guests())
    crowds = gated_codes_of(device, device.crowds())
    return Device({**works, name: body}, guests, crowds, armed=device.armed, flags=device.flagged)


def with_codes(device, codes):
    """Return the device with other items for all of its threads."""
    named = [flag for thread in codes for flag in names_in(codes[thread], FLAG_WORDS)]
    return Device(
        {name: codes[name] for name in device.works()},
        {name: (device[name].gate, codes[name]) for name in device.guests()},
        {name: (device[name].gate, codes[name]) for name in device.crowds()},
        armed=device.armed,
        flags=tuple([flag for flag in device.flagged if flag in named]),
    )


def without_test(items, place, word):
    """Return a tuple of items, numbered from 0, with the test of a number replaced as a word tells."""
    found = ()
    number = 0
    for item in items:
        many = len(flat((item,)))
        if number == place:
            found = found + instead_of(item, word)
        elif number < place < number + many:
            found = found + (without_inner_test(item, place - number - 1, word),)
        else:
            found = found + (item,)
        number += many
    return found


def instead_of(item, word):
    """Return the tuple of items by which a test is replaced."""
    if word == "open":
        return (("choose",) + item[2:],)
    return item[2] if word == "yes" else item[3]


def without_inner_test(item, place, word):
    """Return a test or choose with a test replaced whose number counts from the first item of its two tuples."""
    first, second = branches(item)
    many = len(flat(first))
    if place < many:
        return item[:-2] + (without_test(first, place, word), second)
    return item[:-2] + (first, without_test(second, place - many, word))


def unlocked(items, lock):
    """Return a tuple of items without the takes and gives of a lock, its pieces replaced by their items."""
    found = ()
    for item in items:
        if item in (("take", lock), ("give", lock)):
            continue
        if item[:2] == ("piece", lock):
            found = found + item[2]
        else:
            inner = branches(item)
            rest = item[:len(item) - len(inner)]
            found = found + (rest + tuple([unlocked(one, lock) for one in inner]),)
    return found


def edits(device):
    """Return the list of all edits yes, no, open and unlock of which a device comes."""
    found = [
        (word, name, place) for name in device.threads() for place in range(len(device[name]))
        if is_test(device[name], place) for word in TEST_WORDS
    ]
    found.extend([("unlock", lock) for lock in device.locks()])
    return [edit for edit in found if is_edit(device, edit)]


def is_edit(device, value):
    """Whether any value is an edit of a device."""
    try:
        edited(device, value)
    except InvalidEdit:
        return False
    return True


def needless(device, row, *, limit=6000):
    """Return the list of the edits of a device for which a right row is right, too."""
    check_right(device, row, limit)
    return [edit for edit in edits(device) if is_right_still(edited(device, edit), row, limit)]


def is_right_still(device, row, limit):
    """Whether a row fits a device and is right."""
    try:
        return is_right(device, row, limit=limit)
    except UnknownName:
        return False


def needless_steps(device, row, *, limit=6000):
    """Return the rising list of the indexes of the steps without which, one at a time, a right row is right, too."""
    check_right(device, row, limit)
    return [index for index in range(len(row)) if is_right_without(device, row, index, limit)]


def is_right_without(device, row, index, limit):
    """Whether a row without one of its steps is a row, and right."""
    try:
        return is_right(device, row.without(index), limit=limit)
    except InvalidStep:
        return False

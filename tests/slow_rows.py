"""Verdicts, rows out of a stock, and edits a second time, from the words of the document and slowly."""

import itertools

from slow import slow_loud_length, slow_table
from slow_waits import Slow
from takendown.devices import Device
from takendown.errors import DownError, InvalidStep
from takendown.rows import Row


def slow_word(device, row, most_states=100):
    """Return loud, waits or right, None if there are too many states."""
    depths = slow_table(device, row, most_states)
    if depths is None:
        return None
    if slow_loud_length(device, row, depths) is not None:
        return "loud"
    return "right" if Slow(device, row).waits(depths) is None else "waits"


def slow_rows(stock, longest):
    """Return the list of the rows out of a stock, by their lengths, then by the indexes in the stock."""
    found = []
    for many in range(longest + 1):
        for chosen in sorted(itertools.permutations(range(len(stock)), many)):
            try:
                found.append(Row(*[stock[index] for index in chosen]))
            except InvalidStep:
                continue
    return found


def slow_price(row, wait=3, plain=1):
    return sum({"halt": wait, "settle": wait, "drain": wait}.get(word, plain) for word, _ in row.steps())


def slow_edited(device, edit):
    """Return the device that comes of an edit whose words are right, or None."""
    bodies = {name: device[name].code for name in device.threads()}
    if edit[0] == "unlock":
        bodies = {name: slow_unlocked(body, edit[1]) for name, body in bodies.items()}
    elif edit[0] == "work":
        if edit[1] in bodies:
            return None
        bodies[edit[1]] = edit[2]
    else:
        count = itertools.count()
        bodies[edit[1]] = slow_replaced(bodies[edit[1]], count, edit)
    works = {name: body for name, body in bodies.items() if name in device.works() or name == edit[1:2][0] not in device}
    gated = [{name: (device[name].gate, bodies[name]) for name in names} for names in (device.guests(), device.crowds())]
    named = {flag for body in bodies.values() for flag in words_with(body, "test", "set", "clear")}
    try:
        return Device(works, *gated, armed=device.armed, flags=tuple(flag for flag in device.flagged if flag in named))
    except DownError:
        return None


def words_with(value, *words):
    """Return the names of all items with some words that stand anywhere in a tuple of items."""
    if not isinstance(value, tuple):
        return
    if len(value) > 1 and value[0] in words:
        yield value[1]
    for one in value:
        yield from words_with(one, *words)


def slow_unlocked(items, lock):
    found = []
    for item in items:
        if item[0] == "piece" and item[1] == lock:
            found.extend(item[2])
        elif item[0] in ("test", "choose"):
            found.append(item[:-2] + tuple(slow_unlocked(one, lock) for one in item[-2:]))
        elif item not in (("take", lock), ("give", lock)):
            found.append(item)
    return tuple(found)


def slow_replaced(items, count, edit):
    """Return the items with the test of an edit replaced; count tells the number of the next item."""
    found = []
    for item in items:
        number = next(count)
        inner = [slow_replaced(one, count, edit) for one in item[-2:]] if item[0] in ("test", "choose") else []
        if number != edit[2]:
            found.append(item[:len(item) - len(inner)] + tuple(inner))
        elif edit[0] == "open":
            found.append(("choose",) + tuple(inner))
        else:
            found.extend(inner[0 if edit[0] == "yes" else 1])
    return tuple(found)

"""Texts: bodies, rows and devices as words, written and read."""

from takendown.devices import Device
from takendown.errors import InvalidText
from takendown.items import check_body, is_name, is_step
from takendown.rows import Row

MOST_DEEP = 10
BETWEEN = " ; "

# What stands behind the first word of each item
ITEM_PARTS = {
    "use": (),
    "start": ("name",),
    "cancel": ("name",),
    "set": ("name",),
    "clear": ("name",),
    "take": ("name",),
    "give": ("name",),
    "test": ("name", "items", "items"),
    "choose": ("items", "items"),
    "piece": ("name", "items"),
}

# The kinds of a device's rows in their order, with the number of names ahead of the body
ROW_KINDS = ("work", "guest", "crowd", "armed", "flags")
NAMES_AHEAD = {"work": 1, "guest": 2, "crowd": 2}


def write_body(items):
    """Return the text of a tuple of items."""
    return BETWEEN.join([write_item(item) for item in items])


def write_item(item):
    """Return the text of an item."""
    return " ".join([part if isinstance(part, str) else write_tuple(part) for part in item])


def write_tuple(items):
    """Return the text of a tuple of items within an item."""
    return "( " + write_body(items) + " )" if len(items) > 0 else "( )"


def write_row(row):
    """Return the text of a row."""
    return BETWEEN.join([word + " " + name for word, name in row.steps()])


def write_device(device):
    """Return the text of a device."""
    rows = ["work " + name + " " + write_body(device[name].code) for name in device.works()]
    for kind, names in (("guest", device.guests()), ("crowd", device.crowds())):
        rows.extend([" ".join([kind, name, device[name].gate, write_body(device[name].code)]) for name in names])
    for kind, names in (("armed", device.armed), ("flags", device.flagged)):
        if len(names) > 0:
            rows.append(kind + " " + " ".join(names))
    return "\n".join(rows)


def check_text(value):
    """Raise InvalidText if any value is no text."""
    if not isinstance(value, str):
        raise InvalidText(None)


def read_body(text):
    """Return the tuple of items that is written in a text."""
    check_text(text)
    items = body_of(text.split(" "))
    if items is None:
        raise InvalidText(0)
    check_body(items)
    return items


def read_row(text):
    """Return the row that is written in a text."""
    check_text(text)
    steps = () if text == "" else tuple([tuple(words) for words in split_up(text.split(" "))])
    if not all([is_step(step) for step in steps]):
        raise InvalidText(0)
    return Row(*steps)


def body_of(words):
    """Return the tuple of items that some words tell, None if they do not tell a body by their form."""
    tree = nested(words)
    if tree is None or len(tree) == 0:
        return None
    return items_of(tree)


def nested(words):
    """Return the list of words, those in parentheses as a list in their place; None if the parentheses do not fit."""
    open_ones = [[]]
    for word in words:
        if word == "(":
            open_ones.append([])
        elif word == ")":
            inner = open_ones.pop()
            if len(open_ones) == 0:
                return None
            open_ones[-1].append(inner)
        else:
            open_ones[-1].append(word)
        if len(open_ones) > MOST_DEEP + 1:
            return None
    return open_ones[0] if len(open_ones) == 1 else None


def split_up(tree):
    """Return the list of the lists of what stands between the semicolons of a list."""
    found = [[]]
    for one in tree:
        if one == ";":
            found.append([])
        else:
            found[-1].append(one)
    return found


def items_of(tree):
    """Return the tuple of items that a list of words and such lists tells, None if it tells none by its form."""
    if len(tree) == 0:
        return ()
    items = [item_of(parts) for parts in split_up(tree)]
    return None if None in items else tuple(items)


def item_of(parts):
    """Return the item that a list of words and lists tells, None if it tells none by its form."""
    if len(parts) == 0 or not isinstance(parts[0], str) or parts[0] not in ITEM_PARTS:
        return None
    kinds = ITEM_PARTS[parts[0]]
    if len(parts) != len(kinds) + 1:
        return None
    told = [part_of(part, kind) for part, kind in zip(parts[1:], kinds)]
    return None if None in told else (parts[0],) + tuple(told)


def part_of(part, kind):
    """Return the name or the tuple of items that a word or list tells, None if it tells no such thing."""
    if kind == "name":
        return part if is_name(part) else None
    return items_of(part) if isinstance(part, list) else None


def read_device(text):
    """Return the device that is written in a text."""
    check_text(text)
    rows = [row_of(row.split(" ")) for row in text.split("\n")]
    for index, row in enumerate(rows):
        if row is None or index > 0 and not is_ahead(rows[index - 1], row):
            raise InvalidText(index)
    return Device(
        {names[0]: items for kind, names, items in rows if kind == "work"},
        {names[0]: (names[1], items) for kind, names, items in rows if kind == "guest"},
        {names[0]: (names[1], items) for kind, names, items in rows if kind == "crowd"},
        armed=names_behind(rows, "armed"),
        flags=names_behind(rows, "flags"),
    )


def names_behind(rows, kind):
    """Return the tuple of the names in those rows (kind, names, items) of a device that are of a kind."""
    return tuple([name for word, names, _ in rows if word == kind for name in names])


def is_ahead(row, other):
    """Whether the row (kind, names, items) of a device may stand ahead of another one."""
    if row[0] != other[0]:
        return ROW_KINDS.index(row[0]) < ROW_KINDS.index(other[0])
    return row[0] in NAMES_AHEAD and row[1][0] < other[1][0]


def row_of(words):
    """Return the tuple (kind, names, items) that the words of a device's row tell, None if they tell none."""
    kind = words[0]
    if kind not in ROW_KINDS:
        return None
    ahead = NAMES_AHEAD.get(kind, len(words))
    names = tuple(words[1:ahead + 1])
    if len(names) == 0 or not all([is_name(name) for name in names]):
        return None
    if kind in NAMES_AHEAD:
        items = body_of(words[ahead + 1:])
        return None if items is None else (kind, names, items)
    return (kind, names, ()) if list(names) == sorted(set(names)) else None

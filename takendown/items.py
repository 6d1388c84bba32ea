"""Names, items, bodies and steps: what is one, how they nest, and which locks they take and give."""

from takendown.errors import InvalidItem

MOST_LETTERS = 8
MOST_ITEMS = 8
MOST_INNER = 4
MOST_WITHIN = 3

FLAG_WORDS = ("test", "set", "clear")
LOCK_WORDS = ("take", "give", "piece")
WORK_WORDS = ("start", "cancel")
PLAIN_WORDS = ("start", "cancel", "set", "clear", "take", "give")
INNER_WORDS = ("use", "start", "test")

STEP_KINDS = {
    "cancel": "works",
    "bar": "works",
    "halt": "works",
    "settle": "works",
    "close": "gates",
    "drain": "gates",
    "set": "flags",
    "clear": "flags",
    "take": "locks",
    "give": "locks",
}


def is_index(value, many):
    """Whether any value is an integer from 0 on, below many."""
    return isinstance(value, int) and not isinstance(value, bool) and 0 <= value < many


def is_name(value):
    """Whether any value is a name."""
    if not isinstance(value, str) or not 1 <= len(value) <= MOST_LETTERS:
        return False
    return all(["a" <= letter <= "z" for letter in value])


def is_item(value):
    """Whether any value is an item, locks held aside."""
    return True not in misshapen((value,), 0)


def is_body(value):
    """Whether any value is a body."""
    try:
        check_body(value)
    except InvalidItem:
        return False
    return True


def is_step(value):
    """Whether any value is a step of a row."""
    if not isinstance(value, tuple) or len(value) != 2:
        return False
    return isinstance(value[0], str) and value[0] in STEP_KINDS and is_name(value[1])


def may_start(items):
    """Return the ascending list of the works that are started anywhere in a tuple of items."""
    return names_in(items, ("start",))


def check_body(value):
    """Raise InvalidItem if any value is no body."""
    if not isinstance(value, tuple) or len(value) == 0:
        raise InvalidItem(None)
    check_each(misshapen(value, 0))
    if len(flat(value)) > MOST_ITEMS:
        raise InvalidItem(None)
    check_each(wrong_locks(value, ()))


def check_each(faults):
    """Raise InvalidItem with the number of the first item that a list of bools tells to be wrong."""
    for place, wrong in enumerate(faults):
        if wrong:
            raise InvalidItem(place)


def misshapen(items, around):
    """Return the list that tells of each item, by its number, whether it is none by itself.

    The items stand in so many tests and chooses as around tells. Behind one that is none the
    numbers may be less than they seem: only the first one counts.
    """
    found = []
    for item in items:
        fit = is_shaped(item, around)
        found.append(not fit)
        if fit:
            for inner in branches(item):
                found.extend(misshapen(inner, around + 1))
    return found


def is_shaped(value, around):
    """Whether any value is an item, whatever the tuples of a test or choose have in them."""
    if not isinstance(value, tuple) or len(value) == 0 or not isinstance(value[0], str):
        return False
    word = value[0]
    if word == "use":
        return len(value) == 1
    if word in PLAIN_WORDS:
        return len(value) == 2 and is_name(value[1])
    if word == "piece":
        return len(value) == 3 and is_name(value[1]) and is_inner(value[2])
    return around < MOST_WITHIN and is_fork(value)


def is_fork(value):
    """Whether a tuple that begins with a text is a test or choose by its words and its two tuples."""
    if value[0] == "test":
        return len(value) == 4 and is_name(value[1]) and are_tuples(value[2:])
    return value[0] == "choose" and len(value) == 3 and are_tuples(value[1:])


def are_tuples(values):
    """Whether each one of some values is a tuple."""
    return all([isinstance(value, tuple) for value in values])


def is_inner(value):
    """Whether any value is what a piece may have within it."""
    if not isinstance(value, tuple) or len(value) == 0 or True in misshapen(value, 0):
        return False
    inside = flat(value)
    return len(inside) <= MOST_INNER and all([item[0] in INNER_WORDS for item in inside])


def branches(item):
    """Return the two tuples of a test or choose, of other items and of steps none."""
    if item[0] == "test":
        return item[2:]
    if item[0] == "choose":
        return item[1:]
    return ()


def flat(items):
    """Return the list of all items in the order of their numbers, without those of pieces."""
    found = []
    for item in items:
        found.append(item)
        for inner in branches(item):
            found.extend(flat(inner))
    return found


def flat_with_pieces(items):
    """Return the list of all items, each piece followed by those within it."""
    found = []
    for item in flat(items):
        found.append(item)
        if item[0] == "piece":
            found.extend(flat(item[2]))
    return found


def names_in(items, words):
    """Return the ascending list of what is named, anywhere in a tuple of items, by items with these words."""
    return sorted({item[1] for item in flat_with_pieces(items) if item[0] in words})


def wrong_locks(items, around):
    """Return the list that tells of each item, by its number, whether it takes or gives wrongly.

    The locks around are held ahead of the items. Steps of a row are looked at likewise.
    """
    found = []
    taken = ()
    for at, item in enumerate(items):
        found.append(is_wrong(item, items[at + 1:], around, taken))
        taken = locks_behind(item, taken)
        for inner in branches(item):
            found.extend(wrong_locks(inner, around + taken))
    return found


def is_wrong(item, later, around, taken):
    """Whether an item takes or gives wrongly, of whose tuple the later ones stand behind it."""
    if item[0] == "give":
        return taken[-1:] != (item[1],)
    if item[0] == "take":
        return item[1] in around + taken or ("give", item[1]) not in later
    return item[0] == "piece" and item[1] in around + taken


def locks_behind(item, held):
    """Return the tuple of the locks held behind an item or step, ahead of which held ones are."""
    if item[0] == "take":
        return held + (item[1],)
    if item[0] == "give":
        return held[:-1]
    return held


def held_along(items, around):
    """Return the list of the tuples of locks held ahead of each item, by its number, or of each step."""
    found = []
    held = around
    for item in items:
        found.append(held)
        for inner in branches(item):
            found.extend(held_along(inner, held))
        held = locks_behind(item, held)
    return found

"""Bodies read a second time, straight from the words of the document and slowly, to compare Body with."""

import random


def laid_out(items):
    """Return the list of (item, parents): parents the chain of (tuple, index, number of its item or None)."""
    found = []

    def visit(row, chain, owner):
        for index, item in enumerate(row):
            own = chain + [(row, index, owner)]
            number = len(found)
            found.append((item, own))
            if item[0] == "test":
                visit(item[2], own, number)
                visit(item[3], own, number)
            elif item[0] == "choose":
                visit(item[1], own, number)
                visit(item[2], own, number)

    visit(items, [], None)
    return found


def inside(item):
    """Return how many items stand in the tuples of an item."""
    tuples = {"test": item[2:], "choose": item[1:]}.get(item[0], ())
    return sum(1 + inside(one) for row in tuples for one in row)


def behind(laid, number):
    """Return the place that follows an item, by going up to what it stands in."""
    item, chain = laid[number]
    row, index, owner = chain[-1]
    if index + 1 < len(row):
        return number + 1 + inside(item)
    return len(laid) if owner is None else behind(laid, owner)


def next_places(laid, number):
    item = laid[number][0]
    follows = behind(laid, number)
    if item[0] not in ("test", "choose"):
        return (follows,)
    first, second = item[-2:]
    second_at = number + 1 + sum(1 + inside(one) for one in first)
    return (number + 1 if first else follows, second_at if second else follows)


def stack(row):
    """Return the locks that the items of one tuple take and do not give."""
    taken = []
    for item in row:
        if item[0] == "take":
            taken.append(item[1])
        elif item[0] == "give" and taken:
            taken.pop()
    return taken


def locks_held(laid, number):
    """Return the locks held at an item: of each tuple around it those taken ahead and not given."""
    return tuple(lock for row, index, _ in laid[number][1] for lock in stack(row[:index]))


def first_wrong(laid):
    """Return the number of the first item that takes or gives wrongly, or None."""
    for number, (item, chain) in enumerate(laid):
        row, index, _ = chain[-1]
        held = locks_held(laid, number)
        if item[0] == "take" and (item[1] in held or ("give", item[1]) not in row[index + 1:]):
            return number
        if item[0] == "give" and (stack(row[:index]) or [None])[-1] != item[1]:
            return number
        if item[0] == "piece" and item[1] in held:
            return number
    return None


def some_items(source, many, levels):
    """Return a tuple of at most so many items, of which tests and chooses are within one another."""
    found = []
    while many > 0 and source.random() < 0.85:
        word = source.choice(("use", "start", "take", "give", "both", "both", "test", "choose", "piece"))
        many -= 1
        if word in ("test", "choose"):
            if levels == 0:
                continue
            first = some_items(source, many, levels - 1)
            many -= sum(1 + inside(one) for one in first)
            second = some_items(source, many, levels - 1)
            many -= sum(1 + inside(one) for one in second)
            found.append(("test", "f", first, second) if word == "test" else ("choose", first, second))
        elif word == "both":
            lock = source.choice("kl")
            held = some_items(source, many - 1, levels)
            many -= 1 + sum(1 + inside(one) for one in held)
            found.extend((("take", lock), *held, ("give", lock)))
        elif word == "piece":
            found.append(("piece", source.choice("kl"), (("use",),)))
        elif word == "use":
            found.append(("use",))
        else:
            found.append((word, source.choice("kl")))
    return tuple(found)


def some_bodies(seed, many):
    """Yield many tuples of at most eight items, not all of them with right locks."""
    source = random.Random(seed)
    while many > 0:
        items = some_items(source, 8, 3)
        if 0 < sum(1 + inside(one) for one in items) <= 8:
            many -= 1
            yield items

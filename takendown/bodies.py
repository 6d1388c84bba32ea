"""Bodies: items in tuples, numbered, with what comes next and which locks are held at each place."""

from takendown.errors import InvalidNumber
from takendown.items import FLAG_WORDS, LOCK_WORDS, WORK_WORDS
from takendown.items import branches, check_body, flat, held_along, is_index, names_in


def order(items):
    """Yield all items of a body in the order of their numbers."""
    yield from flat(items)


def are_alike(one, other):
    """Whether two objects of this package are of the very same class.

    A thread is a body as well, so isinstance alone would let a body equal a thread.
    """
    return one.__class__.__name__ == other.__class__.__name__


def ways_along(items, start, behind):
    """Return the list of the next places of all items, numbered from start, behind following the last."""
    found = []
    for at, item in enumerate(items):
        place = start + len(found)
        follows = behind if at + 1 == len(items) else place + len(flat((item,)))
        found.extend(ways_of(item, place, follows))
    return found


def ways_of(item, place, follows):
    """Return the list of the next places of the item at a place, and of the items in its tuples."""
    inner = branches(item)
    if len(inner) == 0:
        return [(follows,)]
    first, second = inner
    middle = place + 1 + len(flat(first))
    own = (place + 1 if len(first) > 0 else follows, middle if len(second) > 0 else follows)
    return [own] + ways_along(first, place + 1, follows) + ways_along(second, middle, follows)


class Body:
    """A body. It never changes."""

    def __init__(self, items):
        check_body(items)
        self._code = items
        self._listed = flat(items)
        self._ways = ways_along(items, 0, len(self._listed))
        self._held = held_along(items, ()) + [()]

    @property
    def code(self):
        """The tuple of items."""
        return self._code

    @property
    def size(self):
        """The number of items, which is the end, too."""
        return len(self._listed)

    def __len__(self):
        return len(self._listed)

    def __eq__(self, other):
        return isinstance(other, Body) and are_alike(self, other) and self._code == other._code

    def item(self, place):
        """Return the item at a place."""
        if not is_index(place, len(self._listed)):
            raise InvalidNumber(place)
        return self._listed[place]

    def nexts(self, place):
        """Return the tuple of the next places of a place."""
        if not is_index(place, len(self._listed)):
            raise InvalidNumber(place)
        return self._ways[place]

    def held(self, place):
        """Return the tuple of the locks held at a place or at the end, in the order of their takes."""
        if not is_index(place, len(self._held)):
            raise InvalidNumber(place)
        return self._held[place]

    def flags(self):
        """Return the ascending list of the flags named anywhere in the body."""
        return names_in(self._code, FLAG_WORDS)

    def locks(self):
        """Return the ascending list of the locks named anywhere in the body."""
        return names_in(self._code, LOCK_WORDS)

    def works(self):
        """Return the ascending list of the works named anywhere in the body."""
        return names_in(self._code, WORK_WORDS)

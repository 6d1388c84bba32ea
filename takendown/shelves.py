"""Shelves: what was made for a device is kept there, so that it is not made again for each call."""

# As many as a caller may well ask about in turn, and few enough to need little room.
MOST_KEPT = 64


class Shelf:
    """Things under keys, the older ones forgotten when there are too many."""

    def __init__(self):
        self._kept = {}

    def look_up(self, key):
        """Return what is kept under a key, or None."""
        return self._kept.get(key)

    def store(self, key, thing):
        """Keep a thing under a key."""
        if len(self._kept) >= MOST_KEPT:
            self._kept = {}
        self._kept[key] = thing

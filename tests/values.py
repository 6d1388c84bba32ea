"""Values of many kinds, for functions that take any value."""


class EqualToAll:
    """An object that says it is equal to everything."""

    def __eq__(self, other):
        return True

    __hash__ = None


def strange_values():
    """Return values that are no name, item, body, step, place, state or object of the package."""
    return [
        None, True, False, -1, 10 ** 59, "", "%", "Use", "use ", b"use", [], {}, set(), (), ((),), [()], (None,),
        (True,), ("",), ([],), ({},), object(), EqualToAll(), len, int, ["use"], (("use",), ["use"]), ("use", "use"),
        (EqualToAll(),), (EqualToAll(), "w"), {"use": 1}, frozenset(), range(3), Exception(), ((((((),),),),),),
    ]


def namesake(thing):
    """Return an object of another class that is only called like the class of a thing."""
    return type(type(thing).__name__, (), {})()


def nested(levels, word="test", innermost=()):
    """Return an item with so many tests, or chooses, within one another."""
    value = innermost
    for _ in range(levels):
        item = ("test", "f", value, ()) if word == "test" else ("choose", (), value)
        value = (item,)
    return value[0]

import unittest

from takendown import errors

OWN = {
    "InvalidItem": ("place",),
    "NotACrowd": ("name", "place"),
    "InvalidDevice": ("part", "name"),
    "InvalidStep": ("index",),
    "InvalidState": ("value",),
    "InvalidMove": ("move",),
    "InvalidStock": ("value",),
    "InvalidEdit": ("edit",),
    "InvalidText": ("line",),
    "InvalidCommand": ("word",),
}

OTHERS = {
    "InvalidNumber": (ValueError, ("value",)),
    "LimitExceeded": (OverflowError, ("limit",)),
    "UnknownName": (LookupError, ("name",)),
    "NotRight": (RuntimeError, ("word", "paper")),
    "NothingToUndo": (RuntimeError, ("name",)),
}


def listed():
    """Return (class, base, names of the attributes) for each error class but DownError."""
    own = [(getattr(errors, name), errors.DownError, names) for name, names in OWN.items()]
    return own + [(getattr(errors, name), base, names) for name, (base, names) in OTHERS.items()]


class TestErrors(unittest.TestCase):
    def test_bases(self):
        self.assertEqual(errors.DownError.__bases__, (Exception,))
        for kind, base, _ in listed():
            self.assertEqual(kind.__bases__, (base,), kind)

    def test_no_other_error_classes(self):
        found = {name for name, thing in vars(errors).items() if isinstance(thing, type)}
        self.assertEqual(found, {"DownError"} | set(OWN) | set(OTHERS))

    def test_only_down_error_is_a_base(self):
        kinds = [kind for kind, _, _ in listed()]
        for kind in kinds:
            for other in kinds:
                self.assertEqual(issubclass(kind, other), kind is other)
        for name in OTHERS:
            self.assertFalse(issubclass(getattr(errors, name), errors.DownError))

    def test_attributes_by_position(self):
        for kind, _, names in listed():
            values = [object() for _ in names]
            error = kind(*values)
            self.assertEqual([getattr(error, name) for name in names], values)

    def test_attributes_by_name(self):
        for kind, _, names in listed():
            values = {name: [object()] for name in reversed(names)}
            error = kind(**values)
            self.assertEqual(vars(error), values)
            for name in names:
                self.assertIs(getattr(error, name), values[name])

    def test_attributes_are_asked_for(self):
        for kind, _, names in listed():
            with self.assertRaises(TypeError):
                kind()
            with self.assertRaises(TypeError):
                kind(*[0 for _ in names], 0)

    def test_raised_and_caught_by_the_base(self):
        for kind, base, names in listed():
            with self.assertRaises(base) as caught:
                raise kind(*[None for _ in names])
            self.assertIs(type(caught.exception), kind)


if __name__ == "__main__":
    unittest.main()

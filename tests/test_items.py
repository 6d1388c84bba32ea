import unittest

from takendown.bodies import Body
from takendown.errors import InvalidItem
from takendown.items import is_body, is_item, is_name, is_step, may_start
from values import nested, strange_values

USE = ("use",)
WORDS = ("start", "cancel", "set", "clear", "take", "give")
STEPS = ("cancel", "bar", "halt", "settle", "close", "drain", "set", "clear", "take", "give")


class TestIsName(unittest.TestCase):
    def test_names(self):
        for value in ("a", "z", "use", "abcdefgh", "zzzzzzzz"):
            self.assertIs(is_name(value), True, value)

    def test_no_names(self):
        for value in ("", "abcdefghi", "A", "aB", "a1", "1", "a_b", "a b", " a", "a ", "a\n", "a-b", "`", "{", "\u00e9"):
            self.assertIs(is_name(value), False, value)

    def test_any_value(self):
        for value in strange_values():
            self.assertIs(is_name(value), False, value)
        self.assertIs(is_name(value=("a",)), False)


class TestIsItem(unittest.TestCase):
    def test_plain_items(self):
        self.assertIs(is_item(USE), True)
        for word in WORDS:
            self.assertIs(is_item((word, "abcdefgh")), True, word)
            for bad in ((word,), (word, "abcdefghi"), (word, ""), (word, "W"), (word, "w", "w"), [word, "w"],
                        (word, None), (word, True), (word, ("w",)), (word.upper(), "w"), ("w", word)):
                self.assertIs(is_item(bad), False, bad)
        for bad in (("skip", (), ()), ("use", (), ()), ("chooses", (), ()), ("skip", "f", (), ()), ("start", (), ()),
                    ("use", "w"), ["use"], "use", ("Use",), ("bar", "w"), ("halt", "w"), ("skip",), ("close", "g")):
            self.assertIs(is_item(bad), False, bad)

    def test_tests(self):
        for good in (("test", "f", (), ()), ("test", "f", (USE,), ()), ("test", "f", (), (USE, USE))):
            self.assertIs(is_item(good), True, good)
        for bad in (("test", "f"), ("test", "f", ()), ("test", "f", (), (), ()), ("test", "F", (), ()),
                    ("test", (), ()), ("test", "f", [], ()), ("test", "f", (), []), ("test", "f", None, ()),
                    ("test", "f", USE, ()), ("test", "f", (), USE), ("test", "f", ([USE],), ()),
                    ("test", "f", (), (("use", "w"),)), ("test", True, (), ()), ["test", "f", (), ()]):
            self.assertIs(is_item(bad), False, bad)

    def test_chooses(self):
        for good in (("choose", (), ()), ("choose", (USE,), ()), ("choose", (), (USE, ("take", "l")))):
            self.assertIs(is_item(good), True, good)
        for bad in (("choose",), ("choose", ()), ("choose", (), (), ()), ("choose", "f", (), ()), ("choose", [], ()),
                    ("choose", (), []), ("choose", USE, ()), ("choose", (), USE), ("choose", (5,), ()),
                    ["choose", (), ()], ("choose", (), (("choose",),))):
            self.assertIs(is_item(bad), False, bad)

    def test_tests_within_one_another(self):
        for word in ("test", "choose"):
            for levels in (1, 2, 3):
                self.assertIs(is_item(nested(levels, word)), True)
                self.assertIs(is_item(nested(levels, word, (USE,))), True)
            self.assertIs(is_item(nested(4, word)), False)
            self.assertIs(is_item(nested(30, word)), False)
        mixed = ("choose", (nested(2),), (nested(2, "choose"),))
        self.assertIs(is_item(mixed), True)
        self.assertIs(is_item(("test", "f", (), (mixed,))), False)
        self.assertIs(is_item(("choose", (), (nested(3),))), False)

    def test_three_deep_beside_one_another(self):
        self.assertIs(is_item(("choose", (nested(2), nested(2)), (nested(2), USE))), True)

    def test_pieces(self):
        for inner in ((USE,), (("start", "w"),), (USE, USE, USE, USE), (("test", "f", (), ()),),
                      (("test", "f", (USE,), (("start", "w"),)), USE), (nested(3),), (nested(3, "test", (USE,)),)):
            self.assertIs(is_item(("piece", "l", inner)), True, inner)
        for inner in ((), [USE], USE, None, "use", (["use"],), (("cancel", "w"),), (("set", "f"),), (("clear", "f"),),
                      (("take", "l"), ("give", "l")), (("choose", (), ()),), (("piece", "l", (USE,)),),
                      (("test", "f", (("set", "f"),), ()),), (("test", "f", (), (("choose", (), ()),)),),
                      (("test", "f", [], ()),), (("test", "f", (), (("piece", "l", (USE,)),)),), (nested(4),)):
            self.assertIs(is_item(("piece", "l", inner)), False, inner)
        for bad in (("piece", "l"), ("piece", (USE,)), ("piece", "L", (USE,)), ("piece", "l", (USE,), ()),
                    ("piece", None, (USE,)), ["piece", "l", (USE,)]):
            self.assertIs(is_item(bad), False, bad)

    def test_pieces_of_four_and_five(self):
        self.assertIs(is_item(("piece", "l", (USE,) * 4)), True)
        self.assertIs(is_item(("piece", "l", (USE,) * 5)), False)
        self.assertIs(is_item(("piece", "l", (("test", "f", (USE, USE), (USE,)),))), True)
        self.assertIs(is_item(("piece", "l", (("test", "f", (USE, USE), (USE, USE)),))), False)
        self.assertIs(is_item(("piece", "l", (("test", "f", (USE, USE), (USE,)), USE))), False)

    def test_tests_in_a_piece_are_counted_from_the_piece_alone(self):
        deep = nested(3, "test", (("piece", "l", (nested(3),)),))
        self.assertIs(is_item(deep), True)
        self.assertIs(is_item(nested(3, "choose", (("piece", "l", (nested(4),)),))), False)

    def test_locks_are_held_aside(self):
        for good in (("take", "l"), ("give", "l"), ("choose", (("give", "l"),), (("take", "l"),))):
            self.assertIs(is_item(good), True)
        self.assertIs(is_item(("test", "f", (("take", "l"), ("piece", "l", (USE,))), ())), True)

    def test_the_number_of_items_is_held_aside(self):
        self.assertIs(is_item(("choose", (USE,) * 20, (USE,) * 20)), True)

    def test_any_value(self):
        for value in strange_values():
            self.assertIs(is_item(value), False, value)
            self.assertIs(is_item((value, "w")), False, value)
            self.assertIs(is_item(("start", value)), False, value)
            self.assertIs(is_item(("test", value, (), ())), False, value)
            if value != ():
                self.assertIs(is_item(("test", "f", value, ())), False, value)
                self.assertIs(is_item(("choose", (), value)), False, value)
            self.assertIs(is_item(("choose", (USE, value), ())), False, value)
            self.assertIs(is_item(("piece", "l", value)), False, value)
            self.assertIs(is_item(("piece", "l", (USE, value))), False, value)


class TestIsBody(unittest.TestCase):
    def test_ordinary(self):
        for good in ((USE,), (USE, ("start", "w")), (("take", "l"), ("give", "l")), (nested(3),),
                     (("test", "f", (), ()),), (("piece", "l", (USE,) * 4),)):
            self.assertIs(is_body(good), True, good)

    def test_number_of_items(self):
        self.assertIs(is_body((USE,) * 8), True)
        self.assertIs(is_body((USE,) * 9), False)
        self.assertIs(is_body((("choose", (USE,) * 3, (USE,) * 4),)), True)
        self.assertIs(is_body((("choose", (USE,) * 4, (USE,) * 4),)), False)
        self.assertIs(is_body((("piece", "l", (USE,) * 4),) * 8), True)

    def test_no_bodies(self):
        for bad in ((), [USE], USE, (USE, ["use"]), (nested(4),), (("take", "l"),), (("give", "l"),), None,
                    (("piece", "l", (USE,) * 5),), (("take", "l"), ("piece", "l", (USE,)), ("give", "l"))):
            self.assertIs(is_body(bad), False, bad)

    def test_any_value(self):
        for value in strange_values():
            self.assertIs(is_body(value), False, value)
            self.assertIs(is_body((USE, value)), False, value)

    def test_like_body(self):
        values = [(USE,) * many for many in range(11)] + [(nested(levels),) for levels in range(1, 6)]
        for value in values + strange_values():
            try:
                Body(value)
                made = True
            except InvalidItem:
                made = False
            self.assertIs(is_body(value), made)


class TestIsStep(unittest.TestCase):
    def test_steps(self):
        for word in STEPS:
            for name in ("w", "abcdefgh"):
                self.assertIs(is_step((word, name)), True, word)
            for bad in ((word,), (word, ""), (word, "abcdefghi"), (word, "W"), (word, "w", "w"), [word, "w"],
                        (word, True), (word, None), (word, ["w"]), word, ("w", word)):
                self.assertIs(is_step(bad), False, bad)

    def test_items_that_are_no_steps(self):
        for bad in (USE, ("start", "w"), ("test", "f", (), ()), ("choose", (), ()), ("piece", "l", (USE,)),
                    ("test", "f"), ("piece", "l"), ("use", "w"), ("choose", "w"), ("step", "w"), ("free", "w")):
            self.assertIs(is_step(bad), False, bad)

    def test_any_value(self):
        for value in strange_values():
            self.assertIs(is_step(value), False, value)
            self.assertIs(is_step((value, "w")), False, value)
            self.assertIs(is_step(("halt", value)), False, value)


class TestMayStart(unittest.TestCase):
    def test_ordinary(self):
        self.assertEqual(may_start(()), [])
        self.assertEqual(may_start((USE, ("cancel", "w"))), [])
        self.assertEqual(may_start((("start", "w"), ("start", "v"), ("start", "w"))), ["v", "w"])
        self.assertEqual(may_start(items=(("start", "w"),)), ["w"])

    def test_anywhere(self):
        within = ("test", "f", (("start", "d"),), (("choose", (("start", "c"),), (("start", "b"),)),))
        piece = ("piece", "l", (("test", "f", (("start", "a"),), ()), ("start", "e")))
        self.assertEqual(may_start((within, piece, ("set", "x"), ("take", "y"))), ["a", "b", "c", "d", "e"])
        self.assertEqual(may_start((("choose", (), (piece,)),)), ["a", "e"])

    def test_a_new_list_each_time(self):
        items = (("start", "w"),)
        may_start(items).append("x")
        self.assertEqual(may_start(items), ["w"])


if __name__ == "__main__":
    unittest.main()

import itertools
import unittest

from reference import first_wrong, laid_out
from takendown.devices import Device
from takendown.errors import InvalidNumber, InvalidStep, UnknownName
from takendown.rows import Row, fits
from values import EqualToAll, namesake, strange_values

BAR, HALT, SET = ("bar", "w"), ("halt", "w"), ("set", "f")
TAKE, GIVE = ("take", "l"), ("give", "l")
TAKE_K, GIVE_K = ("take", "k"), ("give", "k")
NO_STEPS = (("use",), ("start", "w"), ("halt", "W"), ("halt",), ("halt", "w", "w"), ["halt", "w"], ("test", "f", (), ()))


def fault_of(call, *parts):
    """Return the index that the error of a call tells, in a tuple, or () without an error."""
    try:
        call(*parts)
    except InvalidStep as error:
        return (error.index,)
    return ()


class TestRowErrors(unittest.TestCase):
    def test_no_step(self):
        for bad in strange_values() + list(NO_STEPS):
            self.assertEqual(fault_of(Row, bad), (0,))
            self.assertEqual(fault_of(Row, BAR, HALT, bad, HALT, bad), (2,))

    def test_eight_steps_and_nine(self):
        self.assertEqual(fault_of(Row, *[BAR] * 8), ())
        self.assertEqual(fault_of(Row, *[BAR] * 9), (None,))
        self.assertEqual(fault_of(Row, *[BAR] * 20), (None,))

    def test_takes_and_gives(self):
        cases = (
            ((TAKE, GIVE), ()), ((TAKE, TAKE_K, GIVE_K, GIVE), ()), ((TAKE, BAR, GIVE, TAKE, GIVE), ()),
            ((BAR, TAKE), (1,)), ((TAKE, TAKE, GIVE, GIVE), (1,)), ((TAKE, TAKE_K, GIVE, GIVE_K), (2,)), ((GIVE,), (0,)),
            ((TAKE, GIVE, GIVE), (2,)), ((TAKE, GIVE, TAKE), (2,)), ((TAKE, GIVE_K), (0,)),
            ((TAKE, GIVE_K, GIVE), (1,)), ((GIVE, TAKE), (0,)), ((TAKE, TAKE_K, TAKE, GIVE, GIVE_K, GIVE), (2,)),
        )
        for steps, told in cases:
            self.assertEqual(fault_of(Row, *steps), told, steps)

    def test_which_error_comes_first(self):
        self.assertEqual(fault_of(Row, *[TAKE] * 9), (None,))
        self.assertEqual(fault_of(Row, *[BAR] * 9, None), (9,))
        self.assertEqual(fault_of(Row, GIVE, None), (1,))

    def test_all_short_rows_of_takes_and_gives(self):
        for many in range(6):
            for steps in itertools.product((TAKE, GIVE, TAKE_K, GIVE_K), repeat=many):
                place = first_wrong(laid_out(steps))
                self.assertEqual(fault_of(Row, *steps), () if place is None else (place,))


class TestMadeRows(unittest.TestCase):
    def test_shut(self):
        self.assertEqual(Row.shut("w").steps(), [("bar", "w"), ("halt", "w")])
        self.assertEqual(Row.shut(work="v"), Row(("bar", "v"), ("halt", "v")))
        for bad in strange_values() + ["W", "abcdefghi"]:
            self.assertEqual(fault_of(Row.shut, bad), (0,))

    def test_locked(self):
        self.assertEqual(Row.locked("l").steps(), [TAKE, GIVE])
        self.assertEqual(Row.locked("l", BAR, TAKE_K, GIVE_K).steps(), [TAKE, BAR, TAKE_K, GIVE_K, GIVE])

    def test_locked_counts_the_steps_of_the_made_row(self):
        for bad in strange_values() + ["L", "abcdefghi"]:
            self.assertEqual(fault_of(Row.locked, bad, BAR), (0,))
        for bad in strange_values():
            self.assertEqual(fault_of(Row.locked, "l", BAR, bad), (2,))
        self.assertEqual(fault_of(Row.locked, "l", *[BAR] * 6), ())
        self.assertEqual(fault_of(Row.locked, "l", *[BAR] * 7), (None,))
        self.assertEqual(fault_of(Row.locked, "l", TAKE, GIVE), (1,))
        self.assertEqual(fault_of(Row.locked, "l", GIVE), (2,))
        self.assertEqual(fault_of(Row.locked, "l", BAR, TAKE_K), (2,))


class TestSum(unittest.TestCase):
    def test_with_rows_and_tuples(self):
        row, other = Row(BAR, HALT), Row(SET)
        for made in (row + other, row + (SET,), (BAR, HALT) + other, Row() + (BAR, HALT, SET), () + Row(BAR, HALT, SET),
                     Row(BAR, HALT, SET) + ()):
            self.assertIsInstance(made, Row)
            self.assertEqual(made.steps(), [BAR, HALT, SET])
        self.assertEqual((other + row).steps(), [SET, BAR, HALT])
        self.assertEqual(((SET,) + row).steps(), [SET, BAR, HALT])
        self.assertEqual((len(row), len(other)), (2, 1))

    def test_with_what_is_neither(self):
        row = Row(BAR)
        for other in strange_values() + [[BAR], "ab", {BAR: BAR}]:
            if not isinstance(other, tuple):
                self.assertEqual(fault_of(lambda: row + other), (None,))
                self.assertEqual(fault_of(lambda: other + row), (None,))

    def test_with_steps_that_are_none(self):
        row = Row(BAR, HALT)
        for bad in strange_values():
            self.assertEqual(fault_of(lambda: row + (SET, bad)), (3,))
            self.assertEqual(fault_of(lambda: (SET, bad) + row), (1,))

    def test_errors_of_the_class(self):
        row = Row(*[BAR] * 5)
        self.assertEqual(fault_of(lambda: row + Row(*[BAR] * 4)), (None,))
        self.assertEqual(fault_of(lambda: (BAR,) * 4 + row), (None,))
        self.assertEqual(len(row + (BAR,) * 3), 8)
        self.assertEqual(fault_of(lambda: row + (TAKE, BAR)), (5,))
        self.assertEqual(fault_of(lambda: (BAR, GIVE) + row), (1,))

    def test_longer_in_place(self):
        row = first = Row(BAR)
        row += (HALT,)
        self.assertEqual((row.steps(), first.steps()), ([BAR, HALT], [BAR]))


class TestRow(unittest.TestCase):
    def test_example_of_the_document(self):
        row = Row.shut('w') + (('close', 'door'),)
        told = (row.steps(), ('halt', 'w') in row, Row(('bar', 'w')).begins(row), Row.locked('l', ('set', 'f')).held(2))
        self.assertEqual(told, ([('bar', 'w'), ('halt', 'w'), ('close', 'door')], True, True, ('l',)))

    def test_in(self):
        row = Row(BAR, HALT)
        self.assertEqual((BAR in row, HALT in row, SET in row, ("bar", "v") in row), (True, True, False, False))
        for value in strange_values() + ["bar", ["bar", "w"], 0, (BAR,), ("bar",), row]:
            self.assertIs(value in row, False)
            self.assertIs(value in Row(), False)

    def test_index(self):
        row = Row(BAR, HALT, SET)
        self.assertEqual([row[index] for index in range(3)], [BAR, HALT, SET])
        for value in strange_values() + [3, 10 ** 50, "0", BAR, slice(0, 1), slice(None)]:
            for call in (row.__getitem__, row.without):
                with self.assertRaises(InvalidNumber) as caught:
                    call(value)
                self.assertIs(caught.exception.value, value)
        with self.assertRaises(InvalidNumber):
            row[-1]
        with self.assertRaises(InvalidNumber):
            Row()[0]

    def test_iterating(self):
        row = Row(BAR, HALT, SET)
        self.assertEqual([step for step in row], [BAR, HALT, SET])
        self.assertEqual((list(row), tuple(row), list(Row())), ([BAR, HALT, SET], (BAR, HALT, SET), []))
        self.assertEqual([(one, other) for one in row for other in row][3:5], [(HALT, BAR), (HALT, HALT)])

    def test_len(self):
        self.assertEqual((len(Row()), len(Row(BAR)), len(Row(*[BAR] * 8))), (0, 1, 8))

    def test_steps_is_a_new_list(self):
        row = Row(BAR, HALT)
        row.steps().append(SET)
        row.steps().clear()
        self.assertEqual((row.steps(), len(row)), ([BAR, HALT], 2))

    def test_equal(self):
        self.assertTrue(Row(BAR, HALT) == Row(BAR, HALT) and not Row(BAR, HALT) != Row(BAR, HALT))
        self.assertTrue(Row() == Row())
        for other in (Row(HALT, BAR), Row(BAR), Row(BAR, HALT, SET), Row()):
            self.assertTrue(Row(BAR, HALT) != other and not Row(BAR, HALT) == other)

    def test_equal_to_no_value_of_another_class(self):
        class Other(Row):
            pass

        for value in strange_values() + [(BAR,), [BAR], BAR, Other(BAR), namesake(Row())]:
            self.assertFalse(Row(BAR) == value)
            self.assertFalse(Row() == value)
            if not isinstance(value, EqualToAll):
                self.assertFalse(value == Row(BAR))
                self.assertFalse(value == Row())

    def test_begins(self):
        row = Row(BAR, HALT, SET)
        for many in range(4):
            self.assertIs(Row(*row.steps()[:many]).begins(row), True)
        self.assertIs(row.begins(Row(BAR, HALT)), False)
        self.assertIs(Row(HALT).begins(row), False)
        self.assertIs(Row(BAR, SET).begins(row), False)
        self.assertIs(Row(BAR).begins(Row()), False)
        self.assertIs(Row().begins(other=Row()), True)

    def test_without(self):
        row = Row(BAR, HALT, SET)
        self.assertEqual([row.without(index).steps() for index in range(3)], [[HALT, SET], [BAR, SET], [BAR, HALT]])
        self.assertEqual((row.steps(), Row(BAR).without(index=0)), ([BAR, HALT, SET], Row()))

    def test_without_a_take_or_give(self):
        row = Row.locked("l", BAR, HALT)
        self.assertEqual(fault_of(row.without, 0), (2,))
        self.assertEqual(fault_of(row.without, 3), (0,))
        self.assertEqual(row.without(1), Row.locked("l", HALT))

    def test_held(self):
        row = Row(BAR, TAKE, TAKE_K, SET, GIVE_K, GIVE)
        self.assertEqual([row.held(done) for done in range(8)], [(), (), ("l",), ("l", "k"), ("l", "k"), ("l",), (), ()])
        self.assertEqual((Row().held(0), Row().held(done=1)), ((), ()))
        for value in strange_values() + [8, 10 ** 50, "1"]:
            with self.assertRaises(InvalidNumber) as caught:
                row.held(value)
            self.assertIs(caught.exception.value, value)
        with self.assertRaises(InvalidNumber):
            Row().held(2)

    def test_names(self):
        row = Row(("halt", "v"), ("bar", "u"), ("close", "door"), ("clear", "up"), TAKE, GIVE, ("settle", "v"),
                  ("drain", "arch"))
        self.assertEqual(row.names("works"), ["u", "v"])
        self.assertEqual(row.names("gates"), ["arch", "door"])
        self.assertEqual(row.names("flags"), ["up"])
        self.assertEqual(row.names(kind="locks"), ["l"])
        self.assertEqual([Row().names(kind) for kind in ("works", "gates", "flags", "locks")], [[]] * 4)
        self.assertEqual(Row(("cancel", "a"), SET).names("works"), ["a"])
        self.assertEqual(Row(("cancel", "a"), SET).names("flags"), ["f"])

    def test_names_is_a_new_list(self):
        row = Row(BAR)
        row.names("works").append("x")
        self.assertEqual(row.names("works"), ["w"])

    def test_names_of_no_kind(self):
        for value in strange_values() + ["work", "Works", "guests", "crowds", "steps"]:
            with self.assertRaises(UnknownName) as caught:
                Row(BAR).names(value)
            self.assertIs(caught.exception.name, value)


class TestFits(unittest.TestCase):
    DEVICE = Device({"w": (SET, ("test", "e", (), ())), "v": (TAKE, GIVE)}, {"g": ("door", (("use",),))},
                    {"c": ("hatch", (("piece", "k", (("use",),)),))})

    def test_fits(self):
        for word in ("cancel", "bar", "halt", "settle"):
            self.assertIsNone(fits(self.DEVICE, Row((word, "w"), (word, "v"))))
        for word in ("close", "drain"):
            self.assertIsNone(fits(self.DEVICE, Row((word, "door"), (word, "hatch"))))
        for word in ("set", "clear"):
            self.assertIsNone(fits(self.DEVICE, Row((word, "f"), (word, "e"))))
        self.assertIsNone(fits(self.DEVICE, Row(TAKE, TAKE_K, GIVE_K, GIVE)))
        self.assertIsNone(fits(row=Row(), device=self.DEVICE))

    def test_does_not_fit(self):
        for words, names in ((("cancel", "bar", "halt", "settle"), ("g", "c", "door", "f", "l", "x")),
                             (("close", "drain"), ("w", "g", "c", "f", "l", "x")),
                             (("set", "clear"), ("w", "g", "c", "door", "l", "x"))):
            for word in words:
                for name in names:
                    with self.assertRaises(UnknownName) as caught:
                        fits(self.DEVICE, Row((word, name)))
                    self.assertEqual(caught.exception.name, name)
        for name in ("w", "g", "c", "door", "f", "x"):
            with self.assertRaises(UnknownName) as caught:
                fits(self.DEVICE, Row.locked(name))
            self.assertEqual(caught.exception.name, name)

    def test_the_name_in_the_first_step(self):
        row = Row(BAR, ("close", "z"), ("bar", "a"), ("set", "b"))
        with self.assertRaises(UnknownName) as caught:
            fits(self.DEVICE, row)
        self.assertEqual(caught.exception.name, "z")


if __name__ == "__main__":
    unittest.main()

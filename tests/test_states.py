import itertools
import unittest

from takendown.devices import Device
from takendown.errors import InvalidState, UnknownName
from takendown.rows import Row
from takendown.states import first_state, held_by, is_quiet, is_state
from values import strange_values

USE = ("use",)
LOCKED = (("take", "l"), USE, ("give", "l"))

DEVICE = Device(
    {"w": LOCKED, "v": (("set", "on"), ("test", "up", (USE,), ()))},
    {"g": ("door", (USE, ("take", "k")) + LOCKED + (("give", "k"),))},
    {"c": ("door", (USE, ("start", "w"), ("piece", "l", (USE,)))), "b": ("hatch", (USE,))},
    armed=("w",), flags=("up",))
ROW = Row(("close", "door"), ("close", "hatch"), ("take", "l"), ("halt", "w"), ("give", "l"))
FIRST = (((False, None), (True, None)), (False, True), (None,), ((), ()), 0)


def state(works=((False, None), (False, None)), flags=(False, False), guests=(None,), crowds=((), ()), done=0):
    """Return a state of DEVICE and ROW, quiet but for the gates if nothing is told."""
    return (works, flags, guests, crowds, done)


class TestFirstState(unittest.TestCase):
    def test_first_state(self):
        self.assertEqual(first_state(DEVICE, ROW), FIRST)
        self.assertEqual(first_state(row=Row(), device=DEVICE), FIRST)
        told = first_state(Device({"b": (USE,), "a": (USE,)}, armed=("b", "a")), Row())
        self.assertEqual(told, (((True, None), (True, None)), (), (), (), 0))

    def test_kinds_of_values(self):
        works, flags, _, _, done = first_state(DEVICE, ROW)
        self.assertEqual([type(armed) for armed, _ in works] + [type(flag) for flag in flags], [bool] * 4)
        self.assertIs(type(done), int)

    def test_is_a_state(self):
        self.assertIs(is_state(DEVICE, ROW, FIRST), True)


class TestIsState(unittest.TestCase):
    def is_state(self, **parts):
        return is_state(DEVICE, ROW, state(**parts))

    def test_any_value(self):
        for value in strange_values():
            self.assertIs(is_state(DEVICE, ROW, value), False)
            for at in range(5):
                bent = FIRST[:at] + (value,) + FIRST[at + 1:]
                if repr(bent) != repr(FIRST):
                    self.assertIs(is_state(DEVICE, ROW, bent), False, bent)

    def test_members(self):
        self.assertIs(is_state(DEVICE, ROW, FIRST[:4]), False)
        self.assertIs(is_state(DEVICE, ROW, FIRST + (0,)), False)
        self.assertIs(is_state(DEVICE, ROW, list(FIRST)), False)
        for at in range(4):
            fewer = FIRST[:at] + (FIRST[at][:-1],) + FIRST[at + 1:]
            more = FIRST[:at] + (FIRST[at] + FIRST[at][-1:],) + FIRST[at + 1:]
            listed = FIRST[:at] + (list(FIRST[at]),) + FIRST[at + 1:]
            for bent in (fewer, more, listed):
                self.assertIs(is_state(DEVICE, ROW, bent), False, bent)

    def test_works(self):
        for good in ((True, None), (False, None), (True, 0), (False, 2)):
            self.assertIs(self.is_state(works=((False, None), good)), True, good)
        for bad in ((True,), (), (True, None, None), [True, None], (1, None), (0, 0), (None, None), (True, False),
                    (True, True), (True, -1), (True, 3), (True, 4), (True, "0"), (True, (0,)), None, 0, (None, True)):
            self.assertIs(self.is_state(works=((False, None), bad)), False, bad)
            self.assertIs(self.is_state(works=(bad, (False, None))), False, bad)
        for value in strange_values():
            self.assertIs(self.is_state(works=((False, None), value)), False)
            if not isinstance(value, bool):
                self.assertIs(self.is_state(works=((False, None), (value, None))), False)
            if value is not None:
                self.assertIs(self.is_state(works=((False, None), (False, value))), False)

    def test_places_of_works(self):
        self.assertIs(self.is_state(works=((False, 2), (False, None))), True)
        self.assertIs(self.is_state(works=((False, 3), (False, None))), False)

    def test_flags(self):
        for good in ((True, True), (False, True)):
            self.assertIs(self.is_state(flags=good), True)
        for bad in ((1, True), (True, 0), (None, True), [True, True], (True,), (True, True, True), ("", True), True):
            self.assertIs(self.is_state(flags=bad), False, bad)

    def test_guests(self):
        for good in ((None,), (0,), (5,)):
            self.assertIs(self.is_state(guests=good), True)
        for bad in ((6,), (7,), (-1,), (False,), (True,), ("0",), ((0,),), (), (None, None), [None], None, 0):
            self.assertIs(self.is_state(guests=bad), False, bad)

    def test_crowds(self):
        for good in ((), (0,), (2,), (0, 2), (0, 1, 2)):
            self.assertIs(self.is_state(crowds=((), good)), True)
        for bad in ((3,), (0, 3), (-1,), (-1, 0), (1, 0), (0, 0), (0, 2, 1), (1, 1), (False,), (0, True), (True, 2), [0], [],
                    None, 0, (None,), ("0",), ((0,),), (0, None)):
            self.assertIs(self.is_state(crowds=((), bad)), False, bad)
        self.assertIs(self.is_state(crowds=((0,), ())), True)
        self.assertIs(self.is_state(crowds=((1,), ())), False)
        self.assertIs(self.is_state(crowds=[(), ()]), False)
        self.assertIs(self.is_state(crowds=((),)), False)

    def test_done(self):
        for good in (0, 1, 2, 3, 4, 5, 6):
            self.assertIs(self.is_state(done=good), True)
        for bad in (-1, 7, 8, 10 ** 50, False, True, None, "0", (0,), [0]):
            self.assertIs(self.is_state(done=bad), False, bad)

    def test_done_of_a_row_without_steps(self):
        for done, told in ((0, True), (1, True), (2, False), (True, False), (False, False)):
            self.assertIs(is_state(DEVICE, Row(), state(done=done)), told)

    def test_two_at_one_lock(self):
        running, other = ((False, None), (False, 1)), ((False, None), (False, 0))
        self.assertIs(self.is_state(works=running, guests=(2,)), True)
        self.assertIs(self.is_state(works=running, guests=(3,)), False)
        self.assertIs(self.is_state(works=running, guests=(4,)), False)
        self.assertIs(self.is_state(works=running, guests=(5,)), True)
        self.assertIs(self.is_state(works=other, guests=(4,)), True)
        self.assertIs(self.is_state(works=((False, None), (True, None)), guests=(4,)), True)

    def test_the_row_and_another_at_one_lock(self):
        for done, told in ((2, True), (3, False), (4, False), (5, True), (6, True)):
            self.assertIs(self.is_state(works=((False, None), (False, 1)), done=done), told)
            self.assertIs(self.is_state(guests=(4,), done=done), told)
            self.assertIs(self.is_state(guests=(2,), done=done), True)

    def test_two_works_at_one_lock(self):
        device = Device({"v": LOCKED, "w": LOCKED})
        for one, other in itertools.product(range(3), repeat=2):
            value = (((False, one), (False, other)), (), (), (), 0)
            self.assertIs(is_state(device, Row(), value), one == 0 or other == 0)

    def test_two_locks_of_one(self):
        device = Device({"w": (("take", "k"), ("take", "l"), ("give", "l"), ("give", "k"))})
        self.assertIs(is_state(device, Row(), (((False, 2),), (), (), (), 0)), True)

    def test_crowds_hold_no_lock(self):
        self.assertIs(self.is_state(works=((False, None), (False, 1)), crowds=((), (2,))), True)

    def test_by_name(self):
        self.assertIs(is_state(value=FIRST, row=ROW, device=DEVICE), True)


class TestIsQuiet(unittest.TestCase):
    def is_quiet(self, **parts):
        return is_quiet(DEVICE, ROW, state(**parts))

    def test_gates(self):
        self.assertEqual([self.is_quiet(done=done) for done in range(7)], [False, False] + [True] * 5)
        self.assertIs(is_quiet(DEVICE, Row(("close", "hatch"), ("drain", "door")), state(done=3)), False)
        self.assertIs(is_quiet(state=state(done=2), row=ROW, device=DEVICE), True)

    def test_gates_that_are_closed_in_any_order(self):
        names = ("d", "a", "c", "b")
        device = Device({"w": (USE,)}, {"g": ("a", (USE,)), "h": ("b", (USE,))}, {"i": ("c", (USE,)), "j": ("d", (USE,))})
        row = Row(*[("close", name) for name in names])
        told = [is_quiet(device, row, (((False, None),), (), (None, None), ((), ()), done)) for done in range(6)]
        self.assertEqual(told, [False] * 4 + [True, True])

    def test_without_gates(self):
        device = Device({"w": (USE,)}, armed=("w",))
        self.assertIs(is_quiet(device, Row(), first_state(device, Row())), False)
        self.assertIs(is_quiet(device, Row(), (((False, None),), (), (), (), 0)), True)
        self.assertIs(is_quiet(device, Row(), (((False, 0),), (), (), (), 1)), False)

    def test_works(self):
        for work in ((True, None), (False, 0), (True, 1), (False, 2)):
            for done in (2, 6):
                self.assertIs(self.is_quiet(works=((False, None), work), done=done), False)
                self.assertIs(self.is_quiet(works=(work, (False, None)), done=done), False)

    def test_guests_and_crowds(self):
        for place in (0, 5):
            self.assertIs(self.is_quiet(guests=(place,), done=6), False)
        self.assertIs(self.is_quiet(crowds=((), (0,)), done=6), False)
        self.assertIs(self.is_quiet(crowds=((0,), ()), done=2), False)
        self.assertIs(self.is_quiet(crowds=((), (0, 2)), done=5), False)

    def test_flags_do_not_count(self):
        self.assertIs(self.is_quiet(flags=(True, True), done=2), True)

    def test_the_freed_state(self):
        self.assertIs(self.is_quiet(done=6), True)
        self.assertIs(is_quiet(DEVICE, Row(("close", "door")), state(done=2)), False)


class TestHeldBy(unittest.TestCase):
    def held_by(self, **parts):
        return held_by(DEVICE, ROW, state(**parts))

    def test_nobody(self):
        self.assertEqual(held_by(DEVICE, ROW, FIRST), {})
        self.assertEqual(self.held_by(works=((True, 1), (True, 0)), guests=(1,), crowds=((0,), (0, 2))), {})

    def test_works_and_guests(self):
        self.assertEqual(self.held_by(works=((False, None), (False, 1))), {"l": "w"})
        self.assertEqual(self.held_by(guests=(2,)), {"k": "g"})
        self.assertEqual(self.held_by(guests=(4,)), {"k": "g", "l": "g"})
        self.assertEqual(self.held_by(works=((False, None), (False, 2)), guests=(5,)), {"k": "g", "l": "w"})

    def test_the_row(self):
        told = [self.held_by(done=done) for done in range(7)]
        self.assertEqual(told, [{}, {}, {}, {"l": ""}, {"l": ""}, {}, {}])
        self.assertEqual(self.held_by(guests=(2,), done=3), {"k": "g", "l": ""})

    def test_two_guests(self):
        device = Device({"a": LOCKED}, {"g": ("d", LOCKED), "f": ("d", (("take", "k"), ("give", "k")))})
        self.assertEqual(held_by(device, Row(), (((False, None),), (), (1, 1), (), 0)), {"k": "f", "l": "g"})

    def test_a_new_dict(self):
        value = state(done=3)
        held_by(DEVICE, ROW, value)["k"] = "x"
        self.assertEqual(held_by(state=value, row=ROW, device=DEVICE), {"l": ""})


class TestErrors(unittest.TestCase):
    BENT = (
        state(done=7), state(done=True), state(flags=(1, 0)), state(guests=(6,)), state(crowds=((), (1, 0))),
        state(works=((False, None), (False, 1)), guests=(4,)), list(FIRST), state(works=((0, None), (False, None))),
    )

    def test_invalid_state(self):
        for value in strange_values() + list(self.BENT):
            self.assertIs(is_state(DEVICE, ROW, value), False)
            for call in (is_quiet, held_by):
                with self.assertRaises(InvalidState) as caught:
                    call(DEVICE, ROW, value)
                self.assertIs(caught.exception.value, value)

    def test_unknown_name_ahead_of_invalid_state(self):
        row = Row(("halt", "w"), ("halt", "g"), ("close", "x"))
        for value in strange_values() + [FIRST, state(done=1)] + list(self.BENT):
            for call in (is_state, is_quiet, held_by):
                with self.assertRaises(UnknownName) as caught:
                    call(DEVICE, row, value)
                self.assertEqual(caught.exception.name, "g")
        with self.assertRaises(UnknownName) as caught:
            first_state(DEVICE, row)
        self.assertEqual(caught.exception.name, "g")


class TestAllStatesOfASmallDevice(unittest.TestCase):
    """Each value out of a few members is a state just where the words of the document say so."""

    DEVICE = Device({"w": (("take", "l"), ("give", "l"))}, {"g": ("d", (("take", "l"), ("give", "l")))},
                    {"c": ("d", (("test", "f", (), ()), USE))})
    ROW = Row(("take", "l"), ("close", "d"), ("give", "l"))

    def test_all(self):
        places = (None, 0, 1, 2, True, False)
        armed = (True, False, 0, 1)
        crowds = ((), (0,), (1,), (0, 1), (1, 0), (0, 0), (2,), (False,), (0, True))
        states = 0
        for one, at, flag, guest, crowd, done in itertools.product(armed, places, armed, places, crowds, range(-1, 6)):
            value = (((one, at),), (flag,), (guest,), (crowd,), done)
            holders = (at == 1) + (guest == 1) + (done in (1, 2))
            right = (isinstance(one, bool) and isinstance(flag, bool) and at in (None, 0, 1) and guest in (None, 0, 1)
                     and not isinstance(at, bool) and not isinstance(guest, bool) and crowd in crowds[:4]
                     and not any(isinstance(place, bool) for place in crowd) and 0 <= done <= 4 and holders <= 1)
            self.assertIs(is_state(self.DEVICE, self.ROW, value), right, value)
            states += right
            if right:
                quiet = not one and at is None and guest is None and crowd == () and done >= 2
                self.assertIs(is_quiet(self.DEVICE, self.ROW, value), quiet, value)
                holder = "" if done in (1, 2) else "w" if at == 1 else "g" if guest == 1 else None
                told = {} if holder is None else {"l": holder}
                self.assertEqual(held_by(self.DEVICE, self.ROW, value), told, value)
        self.assertEqual(states, 2 * 2 * 4 * (3 * 8 + 2 * 4))


if __name__ == "__main__":
    unittest.main()

import unittest

from draws import DEVICE, USE, careful_row, draws
from slow_rows import slow_edited, slow_word
from takendown.devices import Device
from takendown.edits import edited, edits, needless, needless_steps
from takendown.errors import InvalidEdit, InvalidNumber, InvalidStep, LimitExceeded, NotRight, UnknownName
from takendown.rows import Row
from takendown.tables import Table
from takendown.verdicts import is_right, verdict
from test_tables import NO_LIMITS, WRONG_NAMES
from test_waits import CROSSED, CROSSED_ROW, SELF, SETTLE
from values import EqualToAll, nested, strange_values

START = ("start", "w")
PAIR = (("take", "l"), ("give", "l"))
HELD = (("take", "l"), USE, ("give", "l"))
# Tests within tests and chooses, with locks and a piece, and a test in a piece that has no place
DEEP = Device(
    {"w": (("test", "f", (("test", "g", (), PAIR), ("set", "g")), (("choose", (("test", "h", (START,), ()),), ()),)),)},
    {"g": ("d", (USE, ("test", "f", (), (("take", "k"), ("test", "g", (USE,), ()), ("give", "k")))))},
    {"c": ("d", (("choose", (("test", "f", (("piece", "l", (("test", "g", (START,), ()), USE)),), ()),), ()), USE))},
    armed=("w",), flags=("f", "h"))
CLOSED = (("close", "d"), ("drain", "d"))


def parts(device):
    """Return all that makes a device, its threads by their items."""
    gated = [{name: (device[name].gate, device[name].code) for name in names} for names in (device.guests(), device.crowds())]
    return {name: device[name].code for name in device.works()}, *gated, device.armed, device.flagged


class TestEdited(unittest.TestCase):
    def check(self, edit, thread, items, device=DEEP, flags=None):
        """Look at the device of an edit of which but one thread, and perhaps the flags set at first, is another one."""
        before = parts(device)
        told = edited(device, edit)
        self.assertIsInstance(told, Device)
        self.assertEqual(parts(device), before)
        works, guests, crowds, armed, set_first = before
        for names in (works, guests, crowds):
            if thread in names:
                names[thread] = (names[thread][0], items) if names is not works else items
        self.assertEqual(parts(told), (works, guests, crowds, armed, set_first if flags is None else flags))
        self.assertEqual(told, Device(works, guests, crowds, armed=armed, flags=told.flagged))

    def test_outer_tests(self):
        first, second = DEEP["w"].code[0][2:]
        self.check(("yes", "w", 0), "w", first, flags=("f",))
        self.check(("no", "w", 0), "w", second)
        self.check(("open", "w", 0), "w", (("choose", first, second),))
        self.check(("yes", "g", 1), "g", (USE,))
        held = (("take", "k"), ("test", "g", (USE,), ()), ("give", "k"))
        self.check(("no", "g", 1), "g", (USE,) + held)
        self.check(("open", "g", 1), "g", (USE, ("choose", (), held)))

    def test_inner_tests(self):
        first, second = DEEP["w"].code[0][2:]
        self.check(("yes", "w", 1), "w", (("test", "f", (("set", "g"),), second),))
        self.check(("no", "w", 1), "w", (("test", "f", PAIR + (("set", "g"),), second),))
        self.check(("open", "w", 1), "w", (("test", "f", (("choose", (), PAIR), ("set", "g")), second),))
        # Items of the first tuple are numbered ahead of those of the second one.
        at = [place for place in range(len(DEEP["w"])) if DEEP["w"].item(place)[1:2] == ("h",)][0]
        self.check(("yes", "w", at), "w", (("test", "f", first, (("choose", (START,), ()),)),), flags=("f",))
        self.check(("no", "w", at), "w", (("test", "f", first, (("choose", (), ()),)),), flags=("f",))
        self.check(("open", "w", at), "w", (("test", "f", first, (("choose", (("choose", (START,), ()),), ()),)),),
                   flags=("f",))
        guest = DEEP["g"].code
        self.check(("no", "g", 3), "g", (USE, guest[1][:3] + ((("take", "k"), ("give", "k")),)))

    def test_in_crowds(self):
        piece = ("piece", "l", (("test", "g", (START,), ()), USE))
        self.check(("yes", "c", 1), "c", (("choose", (piece,), ()), USE))
        self.check(("no", "c", 1), "c", (("choose", (), ()), USE))
        self.check(("open", "c", 1), "c", (("choose", (("choose", (piece,), ()),), ()), USE))

    def test_unlock(self):
        told = edited(DEEP, ("unlock", "k"))
        self.assertEqual((told.locks(), told["g"].code), (["l"], (USE, ("test", "f", (), (("test", "g", (USE,), ()),)))))
        self.assertEqual((told["w"], told["c"]), (DEEP["w"], DEEP["c"]))
        told = edited(DEEP, ("unlock", "l"))
        first = (("test", "g", (), ()), ("set", "g"))
        self.assertEqual((told.locks(), told["w"].code), (["k"], (("test", "f", first, DEEP["w"].code[0][3]),)))
        inner = (("test", "g", (START,), ()), USE)
        self.assertEqual(told["c"].code, (("choose", (("test", "f", inner, ()),), ()), USE))
        self.assertEqual((told["g"], told.flagged, told.armed), (DEEP["g"], ("f", "h"), ("w",)))

    def test_unlock_more_than_one(self):
        device = Device({"w": HELD + (USE, ("take", "k")) + PAIR + (("give", "k"),)}, None,
                        {"c": ("d", (("piece", "l", (USE, USE)), ("piece", "k", (USE,)), ("piece", "l", (START,))))})
        told = edited(device, ("unlock", "l"))
        self.assertEqual(told["w"].code, (USE, USE, ("take", "k"), ("give", "k")))
        self.assertEqual(told["c"].code, (USE, USE, ("piece", "k", (USE,)), START))
        told = edited(told, ("unlock", "k"))
        self.assertEqual((told["w"].code, told["c"].code, told.locks()), ((USE, USE), (USE, USE, USE, START), []))

    def test_a_work_more(self):
        told = edited(DEEP, ("work", "v", (("start", "v"), START, ("set", "i"))))
        works, *others = parts(DEEP)
        self.assertEqual(parts(told), ({**works, "v": (("start", "v"), START, ("set", "i"))}, *others))
        self.assertEqual((told.works(), told.flags(), told.armed), (["v", "w"], ["f", "g", "h", "i"], ("w",)))
        self.assertEqual(edited(edit=("work", "d", HELD), device=SELF)["d"].code, HELD)

    def test_flags_set_at_first(self):
        device = Device({"w": (("test", "f", (("clear", "g"),), ()), USE)}, flags=("f", "g"))
        self.assertEqual(edited(device, ("yes", "w", 0)), Device({"w": (("clear", "g"), USE)}, flags=("g",)))
        self.assertEqual(edited(device, ("no", "w", 0)), Device({"w": (USE, USE)[1:]}))
        self.assertEqual(edited(device, ("open", "w", 0)).flagged, ("g",))
        piece = Device({"w": (("test", "f", (), ()), USE)}, None, {"c": ("d", (("piece", "l", (("test", "f", (), ()),)),))},
                       flags=("f",))
        self.assertEqual(edited(piece, ("yes", "w", 0)).flagged, ("f",))

    def test_no_edits(self):
        values = strange_values() + [
            ("yes",), ("yes", "w"), ("yes", "w", 0, 0), ["yes", "w", 0], ("yes", "w", True), ("yes", "w", False), ("yes", "w", -1),
            ("yes", "w", 2), ("yes", "w", 8), ("yes", "w", 9), ("yes", "w", "0"), ("yes", "w", None), ("yes", "w", (0,)),
            ("yes", "x", 0), ("yes", "f", 0), ("yes", None, 0), ("yes", ["w"], 0), ("yes", EqualToAll(), 0), ("Yes", "w", 0),
            ("no", "c", 0), ("open", "g", 0), ("maybe", "w", 0), (None, "w", 0), (EqualToAll(), "w", 0), ("test", "w", 0),
            ("unlock",), ("unlock", "m"), ("unlock", "f"), ("unlock", "w"), ("unlock", "l", 0), ("unlock", None),
            ["unlock", "l"], ("unlock", ["l"]), ("unlock", ("l",)), ("unlock", "L"), ("unlock", EqualToAll()),
            (EqualToAll(), "l"), (EqualToAll(), "v", (USE,)), (EqualToAll(), "w", 1), (["unlock"], "l"),
            ("work",), ("work", "v"), ("work", "v", ()), ("work", "v", [USE]), ("work", "v", USE), ("work", "v", None),
            ("work", "v", (USE,), 0), ["work", "v", (USE,)], ("work", "V", (USE,)), ("work", None, (USE,)), ("work", "", (USE,)),
            ("work", ["v"], (USE,)), ("work", EqualToAll(), (USE,)), ("work", "w", (USE,)), ("work", "g", (USE,)),
            ("work", "c", (USE,)), ("work", "v", (("start", "x"),)), ("work", "v", (("piece", "l", (USE,)),)),
            ("work", "v", (USE,) * 9), ("work", "v", (("take", "l"),)), ("work", "v", (nested(4),)),
            # A fifth flag, a fourth lock
            ("work", "v", (("set", "i"), ("set", "j"))), ("work", "v", HELD + (("take", "m"), ("give", "m")) * 2 + (("take", "n"), ("give", "n"))),
        ]
        for value in values:
            with self.assertRaises(InvalidEdit) as caught:
                edited(DEEP, value)
            self.assertIs(caught.exception.edit, value)

    def test_no_device_comes_of_it(self):
        lone = Device({"w": (("test", "f", (), (START,)),), "v": (("take", "l"), ("give", "l"))}, None, {
            "c": ("d", (("piece", "m", (USE,) * 4),) * 3), "b": ("d", (nested(2, innermost=(("piece", "k", (nested(2),)),)),))})
        for edit in (("yes", "w", 0), ("unlock", "l"), ("unlock", "m"), ("unlock", "k")):
            with self.assertRaises(InvalidEdit) as caught:
                edited(lone, edit)
            self.assertIs(caught.exception.edit, edit)
        self.assertEqual(edited(lone, ("no", "w", 0))["w"].code, (START,))
        full = Device({name: (USE,) for name in "abcd"})
        with self.assertRaises(InvalidEdit):
            edited(full, ("work", "e", (USE,)))

    def test_draws(self):
        many = 0
        for device, _ in draws(131, 300):
            tried = [(word, name, place) for name in device.threads() for place in range(len(device[name]))
                     for word in ("yes", "no", "open") if device[name].item(place)[0] == "test"]
            tried += [("unlock", lock) for lock in device.locks()] + [("work", "x", (("start", "x"), ("test", "f", (), ())))]
            tried += [("work", "y", (("set", "h"), ("set", "i"), ("set", "j")))]
            for edit in tried:
                slow = slow_edited(device, edit)
                if slow is None:
                    with self.assertRaises(InvalidEdit):
                        edited(device, edit)
                else:
                    many += 1
                    self.assertEqual(edited(device, edit), slow)
            self.assertEqual(edits(device), [edit for edit in tried if edit[0] != "work" and slow_edited(device, edit)])
        self.assertGreater(many, 300)


class TestEdits(unittest.TestCase):
    def test_order(self):
        before = parts(DEEP)
        places = [(name, place) for name in "cgw" for place in range(len(DEEP[name])) if DEEP[name].item(place)[0] == "test"]
        self.assertEqual(places, [("c", 1), ("g", 1), ("g", 3), ("w", 0), ("w", 1), ("w", 6)])
        told = edits(DEEP)
        self.assertEqual(told, [(word, name, place) for name, place in places for word in ("yes", "no", "open")]
                         + [("unlock", "k"), ("unlock", "l")])
        self.assertEqual((type(told), parts(DEEP)), (list, before))
        told.clear()
        self.assertEqual(len(edits(device=DEEP)), 20)

    def test_only_those_of_which_a_device_comes(self):
        device = Device({"w": (("test", "f", (), (USE,)),), "v": (("take", "l"), ("give", "l"))})
        self.assertEqual(edits(device), [("no", "w", 0), ("open", "w", 0)])
        self.assertEqual(edits(SELF), [])


class TestNeedless(unittest.TestCase):
    def check(self, device, row, told):
        found = []
        for edit in edits(device):
            other = edited(device, edit)
            try:
                if is_right(other, row):
                    found.append(edit)
            except UnknownName:
                continue
        self.assertEqual(told, found)

    def test_a_test_that_keeps_a_work_from_starting_itself(self):
        device = Device({"w": (("test", "f", (START,), ()), USE)}, armed=("w",), flags=("f",))
        row = Row(("settle", "w"))
        self.assertEqual(verdict(device, row)[0], "waits")
        device = Device({"w": (("test", "f", (START,), ()), USE)}, armed=("w",))
        self.assertEqual(needless(device, row), [("no", "w", 0)])
        self.assertEqual(needless(device, Row.shut("w")), [("yes", "w", 0), ("no", "w", 0), ("open", "w", 0)])

    def test_the_row_must_fit(self):
        device = Device({"w": (("test", "f", (USE,), ()),) + HELD}, armed=("w",))
        self.assertEqual(needless(device, Row(("halt", "w"))),
                         [("yes", "w", 0), ("no", "w", 0), ("open", "w", 0), ("unlock", "l")])
        self.assertEqual(needless(device, Row(("set", "f"), ("halt", "w"))), [("unlock", "l")])
        locked = Row.locked("l", ("cancel", "w")) + (("halt", "w"),)
        self.assertEqual(needless(device, locked), [("yes", "w", 0), ("no", "w", 0), ("open", "w", 0)])
        self.assertEqual(needless(device, locked + (("clear", "f"),)), [])

    def test_steps(self):
        device = Device({"w": (USE, START)}, None, {"c": ("d", (START,))}, armed=("w",))
        row = Row(*CLOSED, ("bar", "w"), ("cancel", "w"), ("halt", "w"))
        self.assertEqual(needless_steps(device, row), [2, 3])
        self.assertEqual(needless_steps(device, Row(*CLOSED, ("halt", "w"))), [])
        self.assertEqual(needless_steps(device, Row(*CLOSED, ("halt", "w"), ("halt", "w"))), [2, 3])
        self.assertEqual(needless_steps(row=Row(), device=Device({"w": (USE,)})), [])
        device = Device({"w": HELD}, armed=("w",))
        row = Row(("take", "l"), ("cancel", "w"), ("give", "l"), ("halt", "w"))
        self.assertEqual(needless_steps(device, row), [1])

    def test_not_right(self):
        for device, row in ((SELF, SETTLE), (SELF, Row()), (CROSSED, CROSSED_ROW), (DEEP, Row())):
            for call in (needless, needless_steps):
                with self.assertRaises(NotRight) as caught:
                    call(device, row)
                told = verdict(device, row)
                self.assertEqual((caught.exception.word, caught.exception.paper), (told[0], told[1:]))
                self.assertIsInstance(caught.exception.paper, tuple)

    def test_errors_in_order(self):
        for call in (needless, needless_steps):
            with self.assertRaises(UnknownName) as caught:
                call(DEVICE, WRONG_NAMES, limit=0)
            self.assertEqual(caught.exception.name, "g")
            for value in NO_LIMITS:
                with self.assertRaises(InvalidNumber) as caught:
                    call(SELF, SETTLE, limit=value)
                self.assertIs(caught.exception.value, value)
            # A row that is not right, with too many states
            with self.assertRaises(LimitExceeded) as caught:
                call(SELF, SETTLE, limit=1)
            self.assertEqual(caught.exception.limit, 1)

    def test_too_many_states_of_an_edited_device(self):
        device = Device({"w": (("test", "f", (USE, USE, USE), ()), USE)}, armed=("w",))
        row = Row(("halt", "w"))
        many = len(Table(device, row))
        most = max(len(Table(edited(device, edit), row)) for edit in edits(device))
        self.assertGreater(most, many)
        self.assertEqual(needless(device, row, limit=most), needless(device, row))
        for limit in (many, most - 1):
            with self.assertRaises(LimitExceeded) as caught:
                needless(device, row, limit=limit)
            self.assertEqual(caught.exception.limit, limit)
        with self.assertRaises(NotRight):
            needless(device, Row(), limit=many)

    def test_too_many_states_without_a_step(self):
        device = Device({"w": (("test", "f", (START, USE, USE, USE), ()),)}, armed=("w",), flags=("f",))
        row = Row(("cancel", "w"), ("bar", "w"), ("halt", "w"), ("cancel", "w"))
        many = len(Table(device, row))
        most = max(len(Table(device, row.without(index))) for index in range(4))
        for limit in (many - 1, max(many, most) - 1):
            with self.assertRaises(LimitExceeded):
                needless_steps(device, row, limit=limit)
        self.assertEqual(needless_steps(device, row, limit=max(many, most)), needless_steps(device, row))

    def test_draws(self):
        kinds = {"needed": 0, "needless": 0, "steps": 0}
        for device, row in draws(133, 500, (careful_row,)):
            if slow_word(device, row, 60) != "right":
                continue
            told = needless(device, row)
            self.check(device, row, told)
            kinds["needless"] += len(told)
            kinds["needed"] += len(edits(device)) - len(told)
            steps = needless_steps(device, row)
            kinds["steps"] += len(steps)
            for index in range(len(row)):
                try:
                    word = slow_word(device, row.without(index), 400)
                except InvalidStep:
                    word = None
                self.assertEqual(index in steps, word == "right")
            self.assertEqual(steps, sorted(steps))
            for edit in told:
                self.assertIn(slow_word(slow_edited(device, edit), row, 400), ("right", None))
        self.assertGreater(min(kinds.values()), 5, kinds)


if __name__ == "__main__":
    unittest.main()

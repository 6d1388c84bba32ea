import unittest

from draws import DEVICE, ROW, USE, careful_row, draws, drawn_row, patient_row
from slow import slow_table
from slow_waits import Slow
from takendown.devices import Device
from takendown.errors import InvalidNumber, InvalidState, LimitExceeded, UnknownName
from takendown.moves import after, end_of, is_run, moves
from takendown.rows import Row
from takendown.states import first_state
from takendown.tables import Table
from takendown.waits import is_dead, is_round, is_waiting, mover_of, movers, waiting_run
from test_moves import STRANGE_MOVES, state
from test_tables import NO_LIMITS, WRONG_NAMES
from values import strange_values

KINDS = (patient_row, drawn_row, patient_row, careful_row)
OFF = (False, None)
SELF = Device({"w": (("start", "w"),)}, armed=("w",))
SETTLE = Row(("settle", "w"))

# Two works that take two locks in two orders: they may hold one each.
CROSSED = Device({"v": (("take", "k"), ("take", "l"), ("give", "l"), ("give", "k")),
                  "w": (("take", "l"), ("take", "k"), ("give", "k"), ("give", "l"))}, armed=("v", "w"))
CROSSED_ROW = Row(("halt", "v"), ("halt", "w"))
# A crowd behind an open gate that starts a work again and again, for which the row waits.
CROWD = Device({"w": (USE,)}, crowds={"c": ("d", (USE, ("start", "w")))})
# A guest whom the row keeps from its lock
KEPT = Device({"w": (USE,)}, {"g": ("d", (("take", "l"), ("give", "l")))})
# Only runs in which v is armed again and again, and never begins, stay among the states in which the flag is clear.
CALLED = Device({"v": (("set", "f"),),
                 "w": (("test", "f", (USE,), (("choose", (("start", "v"),), ()), ("cancel", "v"), ("start", "w"))),)},
                armed=("w",))
KEPT_ROW = Row(("close", "d"), ("take", "l"), ("drain", "d"), ("give", "l"))

WAITING = [
    ("dead", CROSSED, CROSSED_ROW), ("dead", KEPT, KEPT_ROW), ("round", SELF, SETTLE), ("round", CROWD, SETTLE),
    ("round", CROWD, Row(("drain", "d"))), (None, CROWD, Row(("close", "d"), ("drain", "d"), ("bar", "w")) + SETTLE),
    ("round", CALLED, SETTLE),
    (None, CROWD, Row(("bar", "w"), ("settle", "w"))), (None, CROWD, Row()), (None, SELF, Row(("halt", "w"))),
    (None, KEPT, Row(("close", "d"), ("drain", "d"), ("take", "l"), ("give", "l"))),
    # The work for which the row waits is at rest again and again.
    (None, Device({"v": (("start", "w"),), "w": (("start", "v"),)}, armed=("v",)), Row(("settle", "v"), ("halt", "w"))),
    ("round", Device({"v": (("start", "w"),), "w": (("start", "v"),)}, armed=("v", "w")), Row(("settle", "v"))),
    (None, Device({"v": (("start", "w"),), "w": (USE,)}, armed=("v",)), Row(("settle", "w"), ("settle", "v"))),
    ("round", Device({"v": (USE,), "w": (("choose", (("start", "w"),), ()),)}, armed=("w",)), SETTLE),
    (None, Device({"w": (USE,)}, {"g": ("d", (USE,))}), Row(("close", "d"), ("drain", "d"))),
    (None, Device({"w": (USE,)}, {"g": ("d", (USE,))}), Row(("drain", "d"))),
    ("round", Device({"w": (USE,)}, {"f": ("d", (USE,)), "g": ("d", (USE,))}), Row(("drain", "d"))),
]


class TestExample(unittest.TestCase):
    def test_document(self):
        told = (waiting_run(SELF, Row(("halt", "w"))), waiting_run(SELF, SETTLE))
        self.assertEqual(repr(told), "(None, ([], [('begin', 'w'), ('go', 'w', 0)]))")


class TestMovers(unittest.TestCase):
    def test_order(self):
        told = movers(DEVICE, ROW, state(((True, None), (False, 0)), (False, False), (0,), ((0, 1), (0, 2, 3)), 1))
        self.assertEqual(repr(told), repr(["v", "w", "g", ("b", 0), ("b", 1), ("c", 0), ("c", 2), ("c", 3)]))

    def test_nobody_has_to_come(self):
        self.assertEqual(movers(DEVICE, ROW, state()), [])
        self.assertEqual(movers(DEVICE, ROW, state(works=((True, 4), OFF))), ["v"])
        self.assertEqual(movers(DEVICE, ROW, state(guests=(2,))), ["g"])

    def test_those_that_cannot_move(self):
        held = ((False, 2), (True, None))
        self.assertEqual(movers(DEVICE, ROW, state(held, guests=(0,), crowds=((0,), (1,)))), ["v", "w", ("c", 1)])
        self.assertEqual(movers(DEVICE, ROW, state(((False, 1), OFF), guests=(1,), crowds=((0, 1), ()))),
                         ["g", ("b", 1)])
        self.assertEqual(movers(row=ROW, device=DEVICE, state=state(((False, 1), OFF), done=4)), [])

    def test_the_freed_state(self):
        self.assertEqual(movers(DEVICE, ROW, state(((True, None), OFF), done=9)), ["v"])

    def test_new_lists(self):
        movers(SELF, SETTLE, first_state(SELF, SETTLE)).clear()
        self.assertEqual(movers(SELF, SETTLE, first_state(SELF, SETTLE)), ["w"])

    def test_draws(self):
        for device, row in draws(71, 60):
            slow = Slow(device, row)
            for one in list(slow_table(device, row, 200) or [])[:50]:
                told = movers(device, row, one)
                self.assertEqual((len(told), set(told)), (len(set(told)), slow.able(one)))
                self.assertIs(is_dead(device, row, one), slow.is_dead(one))


class TestMoverOf(unittest.TestCase):
    def test_moves(self):
        self.assertEqual(mover_of(("begin", "w")), "w")
        self.assertEqual(mover_of(("go", "none", 1)), "none")
        self.assertEqual(mover_of(("go", "w", 0)), "w")
        for place in range(8):
            self.assertEqual(repr(mover_of(("pass", "c", place, 1, True))), repr(("c", place)))
        self.assertEqual(mover_of(move=("pass", "c", 0, 0, False)), ("c", 0))

    def test_nobodys(self):
        for move in (("enter", "g"), ("come", "c"), ("step",)):
            self.assertIsNone(mover_of(move))

    def test_any_value(self):
        wrong = [("begin", "W"), ("begin", "longernam"), ("begin", ""), ("begin", "w", 0), ("begin",), ("go", "w"),
                 ("go", "w", 2), ("go", "w", True), ("go", "w", False), ("go", "w", -1), ("go", "W", 0), ["go", "w", 0],
                 ("pass", "c", 8, 0, True), ("pass", "c", -1, 0, True), ("pass", "c", True, 0, True),
                 ("pass", "c", 0, 0, 0), ("pass", "c", 0, 0, 1), ("pass", "c", 0, False, True), ("pass", "c", 0, 2, True),
                 ("pass", "c", 0, 0), ("pass", "c", 0, 0, True, 0), ("pass", "c", None, 0, True), ("pass", 3, 0, 0, True),
                 ["pass", "c", 0, 0, True], ("pass", "c", 0, 0, None), ("come", "c", 0), ("steps",)]
        strange = [one for one in STRANGE_MOVES if one not in (("begin", "x"), ("begin", "g"), ("go", "c", 0),
                                                               ("pass", "w", 0, 0, False))]
        for value in wrong + strange + strange_values():
            self.assertIsNone(mover_of(value), value)


class TestIsDead(unittest.TestCase):
    def test_crossed_locks(self):
        for one, two, done, dead in ((1, 1, 0, True), (1, 0, 0, False), (2, 0, 0, False), (None, 0, 0, False),
                                     (None, 0, 1, False), (None, None, 1, False)):
            self.assertIs(is_dead(CROSSED, CROSSED_ROW, (((False, one), (False, two)), (), (), (), done)), dead)

    def test_no_round(self):
        dead = (((False, 1), (False, 1)), (), (), (), 0)
        self.assertIs(is_dead(CROSSED, CROSSED_ROW, dead), True)
        self.assertIs(is_round(CROSSED, CROSSED_ROW, dead, []), False)

    def test_the_row_itself(self):
        self.assertIs(is_dead(KEPT, KEPT_ROW, ((OFF,), (), (0,), (), 2)), True)
        self.assertIs(is_dead(KEPT, KEPT_ROW, ((OFF,), (), (0,), (), 1)), False)
        self.assertIs(is_dead(KEPT, KEPT_ROW, (((True, None),), (), (0,), (), 2)), False)
        self.assertIs(is_dead(KEPT, KEPT_ROW, ((OFF,), (), (None,), (), 2)), False)
        self.assertIs(is_dead(KEPT, KEPT_ROW, ((OFF,), (), (0,), (), 4)), False)

    def test_coming_is_no_duty(self):
        device = Device({"w": (USE,)}, {"f": ("d", (USE,)), "g": ("e", (("take", "l"), ("give", "l")))})
        row = Row(("take", "l"), ("drain", "e"), ("give", "l"))
        one = ((OFF,), (), (None, 0), (), 1)
        self.assertEqual(moves(device, row, one), [("enter", "f")])
        self.assertIs(is_dead(device, row, one), True)

    def test_the_freed_state(self):
        self.assertIs(is_dead(SELF, SETTLE, ((OFF,), (), (), (), 2)), False)


class TestErrors(unittest.TestCase):
    def test_invalid_states(self):
        bent = [state(done=True), state(works=((0, None), OFF)), list(state()), state(crowds=((2,), ()))]
        for value in bent + strange_values():
            for call in (lambda: movers(DEVICE, ROW, value), lambda: is_dead(DEVICE, ROW, value),
                         lambda: is_round(DEVICE, ROW, value, [])):
                with self.assertRaises(InvalidState) as caught:
                    call()
                self.assertIs(caught.exception.value, value)

    def test_unknown_names_first(self):
        for call in (lambda row: movers(DEVICE, row, None), lambda row: is_dead(DEVICE, row, None),
                     lambda row: is_round(DEVICE, row, None, None), lambda row: is_waiting(DEVICE, row, None),
                     lambda row: waiting_run(DEVICE, row, limit=0)):
            with self.assertRaises(UnknownName) as caught:
                call(WRONG_NAMES)
            self.assertEqual(caught.exception.name, "g")

    def test_the_limit(self):
        for value in NO_LIMITS:
            with self.assertRaises(InvalidNumber) as caught:
                waiting_run(SELF, SETTLE, limit=value)
            self.assertIs(caught.exception.value, value)
        for _, device, row in WAITING:
            many = len(Table(device, row))
            self.assertEqual(waiting_run(device, row, limit=many), waiting_run(device, row))
            if many > 1:
                with self.assertRaises(LimitExceeded) as caught:
                    waiting_run(device, row, limit=many - 1)
                self.assertEqual(caught.exception.limit, many - 1)


def check_waiting(test, device, row, told, kind):
    """Check what waiting_run tells of a row that waits."""
    slow = Slow(device, row)
    run, around = told
    test.assertIs(is_run(device, row, run), True)
    end = end_of(device, row, run)
    test.assertIs(is_waiting(device, row, told), True)
    if kind == "dead":
        test.assertTrue(slow.is_dead(end))
        test.assertEqual(around, [])
        dead = [depth for one, depth in slow_table(device, row).items() if slow.is_dead(one)]
        test.assertEqual(len(run), min(dead))
    else:
        test.assertTrue(slow.is_round(end, around))
        test.assertIs(is_round(device, row, end, around), True)


class TestWaitingRun(unittest.TestCase):
    def test_dead_stands_and_rounds(self):
        for kind, device, row in WAITING:
            told = waiting_run(device, row)
            self.assertEqual(kind is None, told is None, (kind, device.threads(), row.steps()))
            if told is not None:
                self.assertIsInstance(told, tuple)
                check_waiting(self, device, row, told, kind)
                self.assertEqual(told, waiting_run(row=row, device=device, limit=6000))

    def test_a_dead_stand_with_the_fewest_moves(self):
        self.assertEqual(len(waiting_run(CROSSED, CROSSED_ROW)[0]), 4)
        self.assertEqual(waiting_run(KEPT, KEPT_ROW), ([("enter", "g"), ("step",), ("step",)], []))

    def test_a_dead_stand_ahead_of_a_round(self):
        again = (("choose", (("start", "u"),), ()),)
        device = Device({"u": again, **{name: CROSSED[name].code for name in "vw"}}, armed=("u", "v", "w"))
        row = Row(("settle", "u"), ("settle", "v"))
        told = waiting_run(device, row)
        self.assertEqual(told[1], [])
        check_waiting(self, device, row, told, "dead")
        self.assertIs(is_waiting(device, row, ([("begin", "u")], [("go", "u", 0), ("go", "u", 0), ("begin", "u")])), False)
        ahead = [(word, name, *way) for name in "vw" for word, way in [("begin", ())] + [("go", (0,))] * 4]
        around = [("begin", "u"), ("go", "u", 0), ("go", "u", 0)]
        self.assertIs(is_waiting(device, row, (ahead, around)), True)

    def test_new_lists(self):
        told = waiting_run(SELF, SETTLE)
        told[1].clear()
        self.assertEqual(waiting_run(SELF, SETTLE)[1], [("begin", "w"), ("go", "w", 0)])

    def test_draws(self):
        found = {}
        for device, row in draws(72, 500, KINDS):
            depths = slow_table(device, row, 60)
            if depths is None:
                continue
            kind = Slow(device, row).waits(depths)
            told = waiting_run(device, row)
            self.assertEqual(told is None, kind is None)
            found[kind] = found.get(kind, 0) + 1
            if told is not None:
                check_waiting(self, device, row, told, kind)
        self.assertGreater(min(found["dead"] * 6, found["round"], found[None]), 40, found)

    def test_whatever_steps_are_behind(self):
        waiting = 0
        for device, row in draws(73, 200, KINDS):
            if slow_table(device, row, 200) is None:
                continue
            told = waiting_run(device, row)
            if told is None:
                continue
            waiting += 1
            at = end_of(device, row, told[0])[4]
            for steps in (row.steps()[:at + 1], row.steps()[:at + 1] + [("halt", work) for work in device.works()]):
                locks = [name for word, name in steps if word == "take"]
                if len(steps) > 8 or any(("give", name) not in steps for name in locks):
                    continue
                self.assertIs(is_waiting(device, Row(*steps), told), True)
        self.assertGreater(waiting, 30)


class TestIsRound(unittest.TestCase):
    # The row waits for ever for an empty crowd behind an open gate; one user after the other comes by.
    AROUND = [("come", "c"), ("pass", "c", 0, 0, True), ("pass", "c", 1, 0, False), ("begin", "w"), ("go", "w", 0)]
    START = ((OFF,), (), (), ((0,),), 0)
    DRAIN = Row(("drain", "d"))

    def is_round(self, value, start=None):
        told = is_round(CROWD, self.DRAIN, start or self.START, value)
        self.assertIs(told, Slow(CROWD, self.DRAIN).is_round(start or self.START, value))
        return told

    def test_right_rounds(self):
        self.assertIs(self.is_round(self.AROUND), True)
        self.assertIs(is_round(value=self.AROUND, state=self.START, row=self.DRAIN, device=CROWD), True)
        self.assertIs(self.is_round(self.AROUND * 3), True)

    def test_from_each_state_on_the_way(self):
        now = self.START
        for at, move in enumerate(self.AROUND):
            self.assertIs(self.is_round(self.AROUND[at:] + self.AROUND[:at], now), True)
            now = after(CROWD, self.DRAIN, now, move)

    def test_a_move_less_or_more(self):
        for at in range(len(self.AROUND)):
            self.assertIs(self.is_round(self.AROUND[:at] + self.AROUND[at + 1:]), False)
        for more in (("come", "c"), ("pass", "c", 0, 0, False), ("begin", "w"), ("step",), ("pass", "c", 0, 0, True)):
            for at in range(len(self.AROUND) + 1):
                self.is_round(self.AROUND[:at] + [more] + self.AROUND[at:])
        self.assertIs(self.is_round(self.AROUND + [("step",)]), False)
        self.assertIs(self.is_round(self.AROUND + [("come", "c")]), True)
        self.assertIs(self.is_round([]), False)

    def test_a_place_that_nobody_comes_to(self):
        self.assertIs(self.is_round(self.AROUND[1:]), False)
        device = Device({"w": (USE,)}, crowds={"c": ("d", (USE,)), "b": ("e", (USE,))})
        row, start = self.DRAIN, ((OFF,), (), (), ((0,), (0,)), 0)
        leave = [("pass", "b", 0, 0, True), ("pass", "c", 0, 0, True)]
        self.assertIs(is_round(device, row, start, leave + [("come", "b"), ("come", "c")]), True)
        self.assertIs(is_round(device, row, start, leave + [("come", "b")]), False)
        self.assertIs(is_round(device, row, start, leave), False)

    def test_a_place_come_to_by_a_pass(self):
        start = ((OFF,), (), (), ((0, 1),), 0)
        device, row = Device({"w": (USE,)}, crowds={"c": ("d", (USE, USE))}), self.DRAIN
        around = [("come", "c"), ("pass", "c", 0, 0, True), ("pass", "c", 1, 0, True)]
        self.assertIs(is_round(device, row, start, around), True)
        self.assertIs(is_round(device, row, start, [around[0], around[2]]), False)

    def test_a_mover_that_can_move_and_does_not(self):
        device = Device({"v": (USE,), "w": (("start", "w"),)}, {"g": ("d", (USE,))}, armed=("w",))
        around = [("begin", "w"), ("go", "w", 0)]
        off, armed = OFF, (True, None)
        for start, right in ((((off, armed), (), (None,), (), 0), True), (((armed, armed), (), (None,), (), 0), False),
                             ((((False, 0), armed), (), (None,), (), 0), False), (((off, armed), (), (0,), (), 0), False)):
            self.assertIs(is_round(device, SETTLE, start, around), right)
        self.assertIs(is_round(device, SETTLE, ((off, armed), (), (None,), (), 0), around + [("enter", "g")]), False)
        self.assertIs(is_round(device, SETTLE, ((off, armed), (), (None,), (), 0),
                               around + [("enter", "g"), ("go", "g", 0)]), True)

    def test_a_state_in_which_the_row_can_go_on(self):
        around = [("begin", "w"), ("go", "w", 0)]
        start = first_state(SELF, SETTLE)
        self.assertIs(is_round(SELF, SETTLE, start, around), True)
        for row in (Row(("halt", "w")), Row(("cancel", "w")), Row()):
            self.assertIs(is_round(SELF, row, start, around), False)
            self.assertIs(is_round(SELF, row, (((False, 0),), (), (), (), 0), around[::-1]), False)

    def test_the_freed_state(self):
        self.assertIs(is_round(SELF, SETTLE, (((True, None),), (), (), (), 2), [("begin", "w"), ("go", "w", 0)]), False)
        self.assertIs(is_round(SELF, SETTLE, (((True, None),), (), (), (), 1), [("begin", "w"), ("go", "w", 0)]), False)

    def test_nobody_who_can_move(self):
        device = Device({"w": (USE,)}, {"g": ("e", (("take", "l"), ("give", "l")))},
                        {"c": ("d", (("piece", "l", (USE,)),))})
        row = Row(("take", "l"), ("drain", "e"), ("give", "l"))
        self.assertIs(is_round(device, row, ((OFF,), (), (0,), ((0,),), 1), [("come", "c")]), True)
        self.assertIs(is_round(device, row, ((OFF,), (), (0,), ((),), 1), [("come", "c")]), False)

    def test_any_value(self):
        for value in [tuple(self.AROUND), dict.fromkeys(self.AROUND), iter(self.AROUND)] + strange_values():
            self.assertIs(is_round(CROWD, self.DRAIN, self.START, value), False)
        for at in range(len(self.AROUND)):
            for wrong in STRANGE_MOVES + strange_values() + [list(self.AROUND[at])]:
                bent = self.AROUND[:at] + [wrong] + self.AROUND[at + 1:]
                self.assertIs(is_round(CROWD, self.DRAIN, self.START, bent), False)
        for wrong in (("pass", "c", False, 0, True), ("pass", "c", 0, False, True), ("pass", "c", 0, 0, 1)):
            self.assertIs(is_round(CROWD, self.DRAIN, self.START, [self.AROUND[0], wrong] + self.AROUND[2:]), False)

    def test_draws(self):
        bent = 0
        for device, row in draws(74, 200, KINDS):
            if slow_table(device, row, 100) is None or waiting_run(device, row) in (None, []):
                continue
            run, around = waiting_run(device, row)
            slow, start = Slow(device, row), end_of(device, row, run)
            for at in range(len(around)):
                for value in (around[:at] + around[at + 1:], around[:at] + around[at:at + 1] + around[at:],
                              around[at:] + around[:at], around[:at] + [("step",)] + around[at:]):
                    self.assertIs(is_round(device, row, start, value), slow.is_round(start, value))
                    bent += 1
        self.assertGreater(bent, 300)


class TestIsWaiting(unittest.TestCase):
    DEAD = waiting_run(CROSSED, CROSSED_ROW)
    ROUND = waiting_run(CROWD, SETTLE)

    def test_right_values(self):
        self.assertIs(is_waiting(CROSSED, CROSSED_ROW, self.DEAD), True)
        self.assertIs(is_waiting(value=self.ROUND, row=SETTLE, device=CROWD), True)

    def test_dead_stands(self):
        run, _ = self.DEAD
        for value in [(run[:-1], []), (run + [("step",)], []), ([], []), (run[1:], []), (tuple(run), []), (run, ()),
                      (run, None), (run, {}), (run,), [run, []], (run, [], []), (run, [("come", "c")]), (run, [[]]), run,
                      (None, []), (run, False), (run, 0)]:
            self.assertIs(is_waiting(CROSSED, CROSSED_ROW, value), False)
        self.assertIs(is_waiting(SELF, SETTLE, ([], [])), False)

    def test_rounds(self):
        run, around = self.ROUND
        for value in [(run, around[:-1]), (run, []), (run + [("come", "c")] * 0 + [("step",)], around), (run, tuple(around)),
                      (run + [None], around), [run, around], (run, around, []), (around, run), (run, around + [("step",)]),
                      (None, around), (run, None), (run, around[1:])]:
            self.assertIs(is_waiting(CROWD, SETTLE, value), False, value)

    def test_any_value(self):
        for value in strange_values():
            for device, row in ((CROSSED, CROSSED_ROW), (CROWD, SETTLE)):
                self.assertIs(is_waiting(device, row, value), False)
                self.assertIs(is_waiting(device, row, (value, [])), False)
            if value != []:
                self.assertIs(is_waiting(CROSSED, CROSSED_ROW, (self.DEAD[0], value)), False)
            self.assertIs(is_waiting(CROWD, SETTLE, (self.ROUND[0], value)), False)


if __name__ == "__main__":
    unittest.main()

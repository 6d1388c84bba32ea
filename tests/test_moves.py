import random
import unittest

from draws import DEVICE, ROW, USE, draws
from slow import slow_first, slow_moves, slow_table
from takendown.devices import Device
from takendown.errors import InvalidMove, InvalidState, UnknownName
from takendown.moves import after, end_of, is_run, moves
from takendown.rows import Row
from takendown.states import first_state, is_quiet
from values import strange_values

FIRST = first_state(DEVICE, ROW)
OFF = (False, None)
STRANGE_MOVES = [
    ["step"], ["begin", "w"], ("step", None), ("begin",), ("begin", "w", 0), ("begin", "x"), ("begin", "g"),
    ("begin", None), ("begin", ["w"]), ("enter", "w"), ("enter", "c"), ("come", "g"), ("come", "w"), ("go", "w"),
    ("go", "w", 2), ("go", "w", -1), ("go", "w", None), ("go", "w", "0"), ("go", "c", 0), ("pass", "c", 0, 0),
    ("pass", "c", 0, 0, None), ("pass", "c", 8, 0, False), ("pass", "c", -1, 0, False), ("pass", "w", 0, 0, False),
    ("begin", "w", []), ("come", "c", {}), ("go", "w", 0, []), ("pass", "c", 0, 0, False, []), ("step", []),
    ("halt", "w"), ("run", "w"), ("test", "on", (), ()), ("step", "step"), "step", b"step", ((("step",),),),
]


def state(works=(OFF, OFF), flags=(False, False), guests=(None,), crowds=((), ()), done=0):
    """Return a state of DEVICE and ROW, quiet but for the gate if nothing is told."""
    return (works, flags, guests, crowds, done)


def exact(value):
    """Return what tells a value from those that are only equal to it."""
    return repr(value)


class TestExample(unittest.TestCase):
    def test_document(self):
        device, row = Device({"w": (("start", "w"),)}, armed=("w",)), Row(("cancel", "w"))
        first = first_state(device, row)
        self.assertEqual(exact(first), "(((True, None),), (), (), (), 0)")
        self.assertEqual(exact(moves(device, row, first)), "[('begin', 'w'), ('step',)]")
        self.assertIs(is_quiet(device, row, end_of(device, row, [("begin", "w"), ("step",)])), False)


class TestMoves(unittest.TestCase):
    def moves(self, **parts):
        return moves(DEVICE, ROW, state(**parts))

    def test_the_whole_list(self):
        told = moves(DEVICE, ROW, state(((True, 0), (True, None)), (True, True), (None,), ((0, 1), (0, 1, 2)), 0))
        self.assertEqual(exact(told), exact([
            ("go", "v", 0), ("begin", "w"), ("enter", "g"),
            ("come", "b"), ("pass", "b", 0, 0, False), ("pass", "b", 0, 0, True), ("pass", "b", 1, 0, False),
            ("pass", "b", 1, 0, True),
            ("come", "c"), ("pass", "c", 0, 0, False), ("pass", "c", 0, 0, True), ("pass", "c", 0, 1, False),
            ("pass", "c", 0, 1, True), ("pass", "c", 1, 0, False), ("pass", "c", 1, 0, True),
            ("pass", "c", 2, 0, False), ("pass", "c", 2, 0, True), ("step",)]))

    def test_works(self):
        self.assertEqual(self.moves(works=(OFF, OFF), done=8), [("step",)])
        self.assertEqual(self.moves(works=((True, None), OFF), done=8), [("begin", "v"), ("step",)])
        self.assertEqual(self.moves(works=((True, 3), OFF), done=8), [("go", "v", 0), ("step",)])
        self.assertEqual(self.moves(works=((False, 0), OFF), done=8), [("go", "v", 1), ("step",)])
        self.assertEqual(self.moves(works=((False, 0), OFF), flags=(True, False), done=8), [("go", "v", 0), ("step",)])
        self.assertEqual(self.moves(works=(OFF, (False, 0)), done=8), [("go", "w", 0), ("go", "w", 1), ("step",)])

    def test_guests_and_gates(self):
        self.assertEqual(self.moves(guests=(None,)), [("enter", "g"), ("come", "b"), ("come", "c"), ("step",)])
        self.assertEqual(self.moves(guests=(1,)), [("go", "g", 0), ("come", "b"), ("come", "c"), ("step",)])
        self.assertEqual(self.moves(guests=(None,), done=1), [("step",)])
        self.assertEqual(self.moves(guests=(1,), done=1), [("go", "g", 0)])

    def test_locks(self):
        self.assertEqual(self.moves(guests=(0,), crowds=((0,), ()), done=1),
                         [("go", "g", 0), ("pass", "b", 0, 0, False), ("pass", "b", 0, 0, True)])
        # The lock is held by a work, by the guest, and by the row.
        self.assertEqual(self.moves(works=((False, 2), OFF), guests=(0,), crowds=((0,), ()), done=1), [("go", "v", 0)])
        self.assertEqual(self.moves(works=((False, 1), OFF), guests=(1,), crowds=((0,), ()), done=1), [("go", "g", 0)])
        self.assertEqual(self.moves(works=((False, 1), OFF), guests=(0,), crowds=((0, 1), ()), done=4),
                         [("pass", "b", 1, 0, False), ("pass", "b", 1, 0, True), ("step",)])
        self.assertEqual(self.moves(works=((False, 1), OFF), guests=(2,), done=3), [("go", "g", 0)])

    def test_steps(self):
        held, run, armed = ((False, 2), OFF), (OFF, (False, 0)), (OFF, (True, None))
        cases = [
            (1, {}, True), (1, {"guests": (0,)}, False), (1, {"crowds": ((0,), ())}, False),
            (1, {"crowds": ((), (2,))}, False), (1, {"works": run}, True),
            (3, {}, True), (3, {"works": held}, False), (3, {"guests": (1,)}, False), (3, {"crowds": ((0,), ())}, True),
            (6, {}, True), (6, {"works": armed}, True), (6, {"works": run}, False), (6, {"works": held}, True),
            (7, {}, True), (7, {"works": ((True, None), OFF)}, False), (7, {"works": held}, False),
            (7, {"works": armed}, True), (7, {"works": run}, True),
            (0, {"works": run}, True), (2, {"works": run}, True), (4, {"works": run}, True), (5, {"works": run}, True),
            (8, {"works": run, "guests": (1,), "crowds": ((0,), ())}, True), (9, {}, False), (9, {"works": run}, False),
        ]
        for done, parts, right in cases:
            self.assertIs(("step",) in self.moves(done=done, **parts), right, (done, parts))

    def test_the_freed_state(self):
        self.assertEqual(self.moves(done=9), [])
        self.assertEqual(self.moves(works=((True, 3), OFF), done=9), [("go", "v", 0)])
        device = Device({"w": (USE,)}, {"g": ("d", (USE,))}, {"c": ("d", (USE,))}, armed=("w",))
        self.assertEqual(moves(device, Row(), (((True, None),), (), (None,), ((),), 1)),
                         [("begin", "w"), ("enter", "g"), ("come", "c")])

    def test_several_crowds_of_one_gate_and_gates_of_their_own(self):
        device = Device({"w": (USE,)}, {"g": ("e", (USE,))}, {"b": ("d", (USE,)), "c": ("d", (USE,))})
        row = Row(("close", "d"), ("drain", "d"))
        self.assertEqual(moves(device, row, (((False, None),), (), (None,), ((), ()), 0)),
                         [("enter", "g"), ("come", "b"), ("come", "c"), ("step",)])
        self.assertEqual(moves(device, row, (((False, None),), (), (0,), ((), (0,)), 1)),
                         [("go", "g", 0), ("pass", "c", 0, 0, False), ("pass", "c", 0, 0, True)])
        self.assertEqual(moves(device, row, (((False, None),), (), (0,), ((), ()), 1)), [("go", "g", 0), ("step",)])

    def test_new_lists_and_keywords(self):
        moves(DEVICE, ROW, FIRST).clear()
        self.assertEqual(moves(state=FIRST, row=ROW, device=DEVICE), moves(DEVICE, ROW, FIRST))


class TestAfter(unittest.TestCase):
    def check(self, move, ahead, behind):
        told = after(DEVICE, ROW, state(**ahead), move)
        self.assertEqual(exact(told), exact(state(**behind)))

    def test_works(self):
        self.check(("begin", "w"), {"works": (OFF, (True, None))}, {"works": (OFF, (False, 0))})
        self.check(("go", "v", 0), {"works": ((True, 0), OFF), "flags": (True, False)},
                   {"works": ((True, 1), OFF), "flags": (True, False)})
        self.check(("go", "v", 1), {"works": ((True, 0), OFF)}, {"works": ((True, 4), OFF)})
        self.check(("go", "v", 0), {"works": ((False, 1), OFF)}, {"works": ((False, 2), OFF)})
        self.check(("go", "v", 0), {"works": ((False, 2), (True, 0))}, {"works": ((False, 3), (False, 0))})
        self.check(("go", "v", 0), {"works": ((False, 2), (False, 0))}, {"works": ((False, 3), (False, 0))})
        self.check(("go", "v", 0), {"works": ((False, 3), OFF)}, {"works": ((False, 4), OFF)})
        self.check(("go", "v", 0), {"works": ((False, 4), OFF), "flags": (True, True)}, {"flags": (False, True)})
        self.check(("go", "w", 0), {"works": (OFF, (False, 0))}, {"works": (OFF, (False, 1))})
        self.check(("go", "w", 1), {"works": (OFF, (False, 0))}, {"works": (OFF, (False, 2))})
        self.check(("go", "w", 0), {"works": (OFF, (False, 1))}, {"flags": (True, False)})
        self.check(("go", "w", 0), {"works": (OFF, (False, 2))}, {"works": ((True, None), OFF)})
        self.check(("go", "w", 0), {"works": ((True, 4), (False, 2))}, {"works": ((True, 4), OFF)})

    def test_guests(self):
        self.check(("enter", "g"), {}, {"guests": (0,)})
        self.check(("go", "g", 0), {"guests": (0,)}, {"guests": (1,)})
        self.check(("go", "g", 0), {"guests": (1,)}, {"guests": (2,)})
        self.check(("go", "g", 0), {"guests": (2,)}, {})

    def test_crowds(self):
        self.check(("come", "c"), {}, {"crowds": ((), (0,))})
        self.check(("come", "c"), {"crowds": ((1,), (0, 2))}, {"crowds": ((1,), (0, 2))})
        self.check(("come", "b"), {"crowds": ((1,), ())}, {"crowds": ((0, 1), ())})
        self.check(("pass", "c", 0, 0, False), {"crowds": ((), (0,))}, {"crowds": ((), (1,))})
        self.check(("pass", "c", 0, 0, True), {"crowds": ((), (0,))}, {"crowds": ((), (0, 1))})
        self.check(("pass", "c", 0, 1, False), {"crowds": ((0,), (0, 1))}, {"crowds": ((0,), (1, 2))})
        self.check(("pass", "c", 2, 0, True), {"crowds": ((), (2,)), "flags": (False, True)},
                   {"crowds": ((), (2, 3)), "flags": (False, True)})
        self.check(("pass", "c", 2, 1, False), {"crowds": ((), (2,))}, {})
        self.check(("pass", "c", 2, 1, True), {"crowds": ((), (2,))}, {"crowds": ((), (2,))})
        self.check(("pass", "c", 3, 0, False), {"crowds": ((), (3,))}, {"works": (OFF, (True, None))})

    def test_pieces(self):
        self.check(("pass", "b", 0, 0, False), {"crowds": ((0,), ())},
                   {"crowds": ((1,), ()), "works": (OFF, (True, None))})
        self.check(("pass", "b", 0, 0, True), {"crowds": ((0,), ()), "flags": (True, False)},
                   {"crowds": ((0, 1), ()), "flags": (True, False), "works": ((True, None), OFF)})
        within = (("test", "f", (("test", "f", (("start", "a"),), (("start", "b"),)),), ()),)
        in_turn = (("test", "f", (("start", "a"),), ()), ("test", "f", (), (("start", "b"),)))
        other = (("test", "f", (("start", "a"), ("start", "b")), (("start", "c"),)),)
        for inner, yes, no in ((within, "a", ""), (in_turn, "a", "b"), (other, "ab", "c")):
            device = Device({name: (USE,) for name in "abc"}, {"g": ("e", (("set", "f"),))},
                            {"x": ("e", (("piece", "l", inner),))})
            for flag, armed in ((True, yes), (False, no)):
                first = (((False, None),) * 3, (flag,), (None,), ((0,),), 0)
                told = after(device, Row(), first, ("pass", "x", 0, 0, False))
                self.assertEqual(told, (tuple((name in armed, None) for name in "abc"), (flag,), (None,), ((),), 0))
                self.assertEqual(moves(device, Row(), first)[2:],
                                 [("pass", "x", 0, 0, False), ("pass", "x", 0, 0, True), ("step",)])

    def test_barred(self):
        self.check(("go", "w", 0), {"works": (OFF, (False, 2)), "done": 3},
                   {"works": ((True, None), OFF), "done": 3})
        for done, armed in ((2, True), (3, False), (9, False)):
            self.check(("pass", "b", 0, 0, False), {"crowds": ((0,), ()), "done": done},
                       {"crowds": ((1,), ()), "works": (OFF, (armed, None)), "done": done})
            self.check(("pass", "c", 3, 0, False), {"crowds": ((), (3,)), "done": done},
                       {"works": (OFF, (armed, None)), "done": done})
        self.check(("pass", "c", 3, 0, False), {"crowds": ((), (3,)), "works": (OFF, (True, 0)), "done": 3},
                   {"works": (OFF, (True, 0)), "done": 3})

    def test_steps(self):
        armed = ((True, 0), (True, None))
        everything = {"works": ((True, 4), (True, None)), "flags": (True, True), "crowds": ((1,), (0,))}
        for done in (0, 2, 3, 5):
            self.check(("step",), {**everything, "done": done}, {**everything, "done": done + 1})
        self.check(("step",), {**everything, "done": 4}, {**everything, "flags": (True, False), "done": 5})
        self.check(("step",), {"works": armed, "done": 1}, {"works": armed, "done": 2})
        self.check(("step",), {"works": armed, "done": 6}, {"works": ((True, 0), OFF), "done": 7})
        self.check(("step",), {"done": 6}, {"done": 7})
        self.check(("step",), {"works": (OFF, (True, 0)), "done": 7}, {"works": (OFF, (True, 0)), "done": 8})
        self.check(("step",), {**everything, "guests": (1,), "done": 8}, {**everything, "guests": (1,), "done": 9})

    def test_cancel_and_set(self):
        device = Device({"w": (("test", "f", (), ()),)}, armed=("w",))
        row = Row(("cancel", "w"), ("set", "f"), ("clear", "f"))
        states = [(((True, None),), (False,), (), (), 0), (((False, None),), (False,), (), (), 1),
                  (((False, None),), (True,), (), (), 2), (((False, None),), (False,), (), (), 3),
                  (((False, None),), (False,), (), (), 4)]
        for ahead, behind in zip(states, states[1:]):
            self.assertEqual(exact(after(device, row, ahead, ("step",))), exact(behind))
        running = (((True, 0),), (False,), (), (), 0)
        self.assertEqual(after(device, row, running, ("step",)), (((False, 0),), (False,), (), (), 1))

    def test_keywords(self):
        told = after(move=("begin", "w"), state=FIRST, row=ROW, device=DEVICE)
        self.assertEqual(told, state((OFF, (False, 0)), (False, True)))


class TestErrors(unittest.TestCase):
    def raises(self, error, call, *arguments):
        with self.assertRaises(error) as caught:
            call(*arguments)
        return caught.exception

    def test_invalid_move(self):
        ahead = state(((True, 0), (True, None)), crowds=((), (0, 3)), done=1)
        possible = moves(DEVICE, ROW, ahead)
        others = [("begin", "v"), ("go", "v", 0), ("go", "w", 0), ("enter", "g"), ("come", "c"), ("step",),
                  ("pass", "b", 0, 0, False), ("pass", "c", 1, 0, False), ("pass", "c", 3, 1, False)]
        mixed = [("go", "v", True), ("pass", "c", False, 0, False), ("pass", "c", 0, False, False),
                 ("pass", "c", 0, True, True), ("pass", "c", 0, 0, 0), ("pass", "c", 0, 0, 1)]
        lists = [list(move) for move in possible]
        for move in others + mixed + lists + STRANGE_MOVES + strange_values():
            error = self.raises(InvalidMove, after, DEVICE, ROW, ahead, move)
            self.assertIs(error.move, move)
        for move in possible:
            after(DEVICE, ROW, ahead, move)

    def test_states_ahead_of_moves(self):
        bent = [state(done=True), state(works=((0, None), OFF)), state(works=((False, 2), OFF), guests=(1,)),
                state(crowds=((), (4,))), list(FIRST)]
        for value in bent + strange_values():
            self.assertIs(self.raises(InvalidState, moves, DEVICE, ROW, value).value, value)
            self.assertIs(self.raises(InvalidState, after, DEVICE, ROW, value, None).value, value)

    def test_unknown_names_first(self):
        row = Row(("halt", "v"), ("close", "w"))
        for value in (FIRST, None):
            for call, arguments in ((moves, (value,)), (after, (value, None)), (is_run, (value,)), (end_of, (value,))):
                self.assertEqual(self.raises(UnknownName, call, DEVICE, row, *arguments).name, "w")


class TestRuns(unittest.TestCase):
    RUN = [("begin", "w"), ("enter", "g"), ("come", "c"), ("go", "w", 1), ("pass", "c", 0, 0, True), ("step",),
           ("go", "w", 0), ("begin", "v"), ("go", "g", 0), ("pass", "c", 1, 0, False)]
    END = state(works=((False, 0), OFF), flags=(False, True), guests=(1,), crowds=((), (0, 2)), done=1)

    def test_runs(self):
        self.assertIs(is_run(DEVICE, ROW, []), True)
        self.assertEqual(exact(end_of(DEVICE, ROW, [])), exact(FIRST))
        for many in range(len(self.RUN) + 1):
            self.assertIs(is_run(DEVICE, ROW, self.RUN[:many]), True)
        self.assertEqual(exact(end_of(run=self.RUN, row=ROW, device=DEVICE)), exact(self.END))
        self.assertIs(is_run(value=self.RUN, row=ROW, device=DEVICE), True)

    def test_behind_the_free(self):
        device = Device({"w": (USE,)}, armed=("w",))
        self.assertIs(is_run(device, Row(), [("step",), ("begin", "w"), ("go", "w", 0)]), True)
        self.assertIs(is_run(device, Row(), [("step",), ("step",)]), False)

    def test_one_move_bent(self):
        for at in range(len(self.RUN)):
            for wrong in STRANGE_MOVES + strange_values() + [list(self.RUN[at])]:
                bent = self.RUN[:at] + [wrong] + self.RUN[at + 1:]
                self.assertIs(is_run(DEVICE, ROW, bent), False)
                with self.assertRaises(InvalidMove) as caught:
                    end_of(DEVICE, ROW, bent)
                self.assertIs(caught.exception.move, wrong)

    def test_the_first_that_is_not_possible(self):
        bent = [self.RUN[0], ("go", "v", 0), ("go", "w", 5)]
        with self.assertRaises(InvalidMove) as caught:
            end_of(DEVICE, ROW, bent)
        self.assertEqual(caught.exception.move, ("go", "v", 0))

    def test_no_list(self):
        for value in [tuple(self.RUN), {}, dict.fromkeys(self.RUN), "step", iter(self.RUN)] + strange_values():
            if value == [] or isinstance(value, list):
                continue
            self.assertIs(is_run(DEVICE, ROW, value), False)
            with self.assertRaises(InvalidMove) as caught:
                end_of(DEVICE, ROW, value)
            self.assertIs(caught.exception.move, value)


class TestDraws(unittest.TestCase):
    def test_against_the_slow_reading(self):
        for device, row in draws(31, 120):
            states = slow_table(device, row, 400) or {slow_first(device): 0}
            for one in list(states)[:60]:
                slow = slow_moves(device, row, one)
                self.assertEqual(exact([move for move, _ in slow]), exact(moves(device, row, one)))
                for move, behind in slow:
                    self.assertEqual(exact(after(device, row, one, move)), exact(behind))

    def test_states_that_no_run_leads_to(self):
        source = random.Random(5)
        for device, row in draws(32, 80):
            for _ in range(10):
                works = tuple((source.random() < 0.5, source.choice((None, 0))) for _ in device.works())
                flags = tuple(source.random() < 0.5 for _ in device.flags())
                guests = tuple(source.choice((None, 0)) for _ in device.guests())
                crowds = tuple(tuple(at for at in range(len(device[name])) if source.random() < 0.5)
                               for name in device.crowds())
                one = (works, flags, guests, crowds, source.randint(0, len(row) + 1))
                slow = slow_moves(device, row, one)
                self.assertEqual([move for move, _ in slow], moves(device, row, one))
                self.assertEqual([after(device, row, one, move) for move, _ in slow], [behind for _, behind in slow])

    def test_in_a_quiet_state_only_the_row_moves(self):
        quiet = 0
        for device, row in draws(33, 120):
            for one in slow_table(device, row, 400) or []:
                if is_quiet(device, row, one):
                    quiet += 1
                    self.assertLessEqual(set(moves(device, row, one)), {("step",)})
                    if one[4] == len(row):
                        self.assertEqual(moves(device, row, after(device, row, one, ("step",))), [])
        self.assertGreater(quiet, 50)


if __name__ == "__main__":
    unittest.main()

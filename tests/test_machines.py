import random
import unittest

from draws import DEVICE, ROW, USE, draws
from slow import sets_of, slow_counted_first, slow_counted_moves
from takendown.devices import Device
from takendown.errors import InvalidMove, NothingToUndo, UnknownName
from takendown.machines import Machine, play
from takendown.rows import Row
from takendown.states import first_state
from test_moves import STRANGE_MOVES
from values import strange_values

STARTER = Device({"w": (USE,)}, crowds={"c": ("door", (USE, ("start", "w")))})
CLOSE = Row(("close", "door"))
COMES = [("come", "c"), ("come", "c"), ("pass", "c", 0, 0)]


def told(machine, crowds=("c",)):
    """Return all that a machine tells."""
    return (machine.state(), [machine.counts(crowd) for crowd in crowds], machine.made(), machine.moves(),
            machine.freed, machine.inside, machine.most, machine.touches)


class TestExample(unittest.TestCase):
    def test_document(self):
        machine = play(STARTER, CLOSE, COMES + [("step",), ("step",)])
        self.assertEqual(repr((machine.counts("c"), machine.state(), machine.freed, machine.moves()[0])),
                         "((1, 1), (((False, None),), (), (), ((0, 1),), 2), True, ('pass', 'c', 0, 0))")


class TestMachine(unittest.TestCase):
    def test_at_first(self):
        machine = Machine(DEVICE, ROW)
        self.assertEqual(repr(machine.state()), repr(first_state(DEVICE, ROW)))
        self.assertEqual([machine.counts("b"), machine.counts("c")], [(0, 0), (0, 0, 0, 0)])
        self.assertEqual((machine.made(), machine.freed, machine.inside, machine.most, machine.touches),
                         ([], False, 0, 0, 0))
        self.assertEqual(machine.moves(), [("begin", "w"), ("enter", "g"), ("come", "b"), ("come", "c"), ("step",)])
        Machine(row=ROW, device=DEVICE)

    def test_moves_without_stay_once_for_each_way(self):
        machine = play(DEVICE, ROW, [("come", "c"), ("come", "c"), ("pass", "c", 0, 0), ("come", "b"), ("begin", "w")])
        self.assertEqual(machine.moves(), [
            ("go", "w", 0), ("go", "w", 1), ("enter", "g"), ("come", "b"), ("pass", "b", 0, 0), ("come", "c"),
            ("pass", "c", 0, 0), ("pass", "c", 0, 1), ("pass", "c", 1, 0), ("step",)])
        machine.moves().clear()
        self.assertEqual(len(machine.moves()), 10)

    def test_counts(self):
        machine = Machine(STARTER, CLOSE)
        for move, counts in ((("come", "c"), (1, 0)), (("come", "c"), (2, 0)), (("come", "c"), (3, 0)),
                             (("pass", "c", 0, 0), (2, 1)), (("pass", "c", 0, 0), (1, 2)), (("pass", "c", 1, 0), (1, 1)),
                             (("step",), (1, 1)), (("pass", "c", 0, 0), (0, 2)), (("pass", "c", 1, 0), (0, 1)),
                             (("pass", "c", 1, 0), (0, 0))):
            self.assertIsNone(machine(move))
            self.assertEqual(machine.counts("c"), counts)
            places = tuple(place for place in (0, 1) if counts[place])
            self.assertEqual(machine.state()[3], (places,))
            self.assertEqual(machine.inside, sum(counts))
        self.assertEqual((machine.most, machine.state()[0]), (3, ((True, None),)))
        self.assertEqual(machine.counts(crowd="c"), (0, 0))

    def test_many_users(self):
        machine = play(STARTER, CLOSE, [("come", "c")] * 40 + [("pass", "c", 0, 0)] * 17)
        self.assertEqual((machine.counts("c"), machine.inside, machine.most), ((23, 17), 40, 40))

    def test_two_crowds(self):
        machine = play(DEVICE, ROW, [("come", "b"), ("come", "c"), ("pass", "b", 0, 0), ("pass", "b", 1, 0)])
        self.assertEqual((machine.counts("b"), machine.counts("c")), ((0, 0), (1, 0, 0, 0)))
        self.assertEqual((machine.inside, machine.most), (1, 2))

    def test_unknown_crowds(self):
        machine = Machine(DEVICE, ROW)
        for value in strange_values() + ["a", "g", "w", "door", "on", ("c",)]:
            with self.assertRaises(UnknownName) as caught:
                machine.counts(value)
            self.assertIs(caught.exception.name, value)

    def test_names_that_do_not_fit(self):
        for call in (lambda row: Machine(DEVICE, row), lambda row: play(DEVICE, row, [None])):
            with self.assertRaises(UnknownName) as caught:
                call(Row(("close", "door"), ("halt", "g")))
            self.assertEqual(caught.exception.name, "g")

    def test_freed_and_touches(self):
        machine = play(STARTER, Row(), COMES)
        self.assertEqual((machine.freed, machine.touches), (False, 0))
        for move, touches in ((("step",), 0), (("pass", "c", 1, 0), 1), (("begin", "w"), 2), (("come", "c"), 3)):
            machine(move)
            self.assertEqual((machine.freed, machine.touches), (True, touches))
        machine.back()
        self.assertEqual((machine.freed, machine.touches, machine.inside, machine.most), (True, 2, 1, 2))

    def test_refused_moves(self):
        machine = play(DEVICE, ROW, [("come", "c"), ("step",), ("begin", "w")])
        before = told(machine, "bc")
        refused = [move for move in STRANGE_MOVES if move != ("pass", "c", 0, 0)] + strange_values() + [
            ("come", "c"), ("enter", "g"), ("step",), ("go", "v", 0), ("begin", "w"), ("go", "w", True),
            ("pass", "c", 1, 0), ("pass", "c", 4, 0), ("pass", "b", 2, 0), ("pass", "c", 7, 0), ("pass", "c", 0, 0, False), ("pass", "c", 0, 0, True),
            ("pass", "b", 0, 0), ("pass", "x", 0, 0), ("pass", "c", False, 0), ("pass", "c", 0, True),
            ["pass", "c", 0, 0], ("pass", "c", 0), ("pass", "c", 0, 2), ("pass", ["c"], 0, 0), ("pass", "w", 0, 0)]
        for move in refused:
            with self.assertRaises(InvalidMove) as caught:
                machine(move)
            self.assertIs(caught.exception.move, move)
            self.assertEqual(told(machine, "bc"), before)
        machine(("pass", "c", 0, 0))

    def test_made(self):
        machine = play(STARTER, CLOSE, COMES)
        self.assertEqual(machine.made(), COMES)
        machine.made().pop()
        self.assertEqual(machine.made(), COMES)

    def test_copy(self):
        machine = play(STARTER, CLOSE, COMES)
        before = told(machine)
        other = machine.copy()
        self.assertIsInstance(other, Machine)
        self.assertEqual(told(other), before)
        other(("come", "c"))
        self.assertEqual(told(machine), before)
        machine.back()
        self.assertEqual((other.counts("c"), machine.counts("c")), ((2, 1), (2, 0)))
        for _ in range(4):
            other.back()
        self.assertEqual((other.made(), machine.made()), ([], COMES[:2]))


class TestAttempt(unittest.TestCase):
    def test_result(self):
        machine = play(STARTER, CLOSE, COMES)
        before = told(machine)
        seen = []

        def visitor(given):
            seen.append(given)
            for move in [("step",), ("step",), ("pass", "c", 0, 0)]:
                given(move)
            return told(given)

        result = machine.attempt(visitor)
        self.assertIs(seen[0], machine)
        self.assertEqual((result[4:], result[1]), ((True, 2, 2, 1), [(0, 2)]))
        self.assertEqual(told(machine), before)
        self.assertIsNone(machine.attempt(visitor=lambda given: None))

    def test_errors_pass_on(self):
        machine = play(STARTER, CLOSE, COMES)
        before = told(machine)
        for error in (KeyError("x"), InvalidMove(3), KeyboardInterrupt()):
            def visitor(given, error=error):
                given(("come", "c"))
                given.back()
                given.back()
                raise error
            with self.assertRaises(type(error)) as caught:
                machine.attempt(visitor)
            self.assertIs(caught.exception, error)
            self.assertEqual(told(machine), before)

    def test_within_one_another(self):
        machine = play(STARTER, CLOSE, COMES)
        before = told(machine)

        def inner(given):
            given.back()
            given.back()
            return given.inside

        def outer(given):
            given(("come", "c"))
            ahead = told(given)
            result = given.attempt(inner)
            self.assertEqual(told(given), ahead)
            return result

        self.assertEqual(machine.attempt(outer), 2)
        self.assertEqual(told(machine), before)

    def test_all_taken_back(self):
        machine = play(STARTER, CLOSE, COMES)

        def visitor(given):
            for _ in COMES:
                given.back()
            given(("step",))

        machine.attempt(visitor)
        self.assertEqual(machine.made(), COMES)
        machine.back()
        self.assertEqual(machine.made(), COMES[:2])


class TestBack(unittest.TestCase):
    def test_all_the_way(self):
        source = random.Random(4)
        machine = Machine(DEVICE, Row(("set", "on"), ("halt", "v")))
        past = []
        for _ in range(80):
            past.append(told(machine, "bc"))
            machine(source.choice(machine.moves()))
        self.assertTrue(machine.freed)
        while past:
            self.assertIsNone(machine.back())
            self.assertEqual(told(machine, "bc"), past.pop())

    def test_most(self):
        machine = play(STARTER, CLOSE, COMES)
        machine.back()
        machine.back()
        self.assertEqual((machine.inside, machine.most), (1, 1))

    def test_nothing_to_undo(self):
        machine = Machine(STARTER, CLOSE)
        for _ in range(2):
            with self.assertRaises(NothingToUndo) as caught:
                machine.back()
            self.assertEqual(caught.exception.name, "back")
            machine(("step",))
            machine.back()


class TestPlay(unittest.TestCase):
    def test_empty(self):
        self.assertEqual(told(play(STARTER, CLOSE, [])), told(Machine(STARTER, CLOSE)))

    def test_the_list_stays_as_it_is(self):
        chosen = list(COMES)
        machine = play(chosen=chosen, row=CLOSE, device=STARTER)
        machine(("step",))
        self.assertEqual(chosen, COMES)

    def test_the_first_that_is_not_possible(self):
        for wrong in [("pass", "c", 1, 1), ("go", "w", 0), ("pass", "c", 0, 0, False), None, [], 0]:
            with self.assertRaises(InvalidMove) as caught:
                play(STARTER, CLOSE, COMES + [wrong, ("go", "w", 1)])
            self.assertIs(caught.exception.move, wrong)


class TestDraws(unittest.TestCase):
    def test_against_the_slow_reading(self):
        source = random.Random(7)
        for device, row in draws(41, 100):
            machine = Machine(device, row)
            state = slow_counted_first(device)
            most = 0
            for _ in range(25):
                slow = slow_counted_moves(device, row, None, state)
                self.assertEqual(machine.moves(), [move for move, _ in slow])
                self.assertEqual(machine.state(), sets_of(state))
                self.assertEqual(tuple(machine.counts(crowd) for crowd in device.crowds()), state[3])
                most = max(most, sum(map(sum, state[3])))
                self.assertEqual((machine.inside, machine.most), (sum(map(sum, state[3])), most))
                if not slow:
                    break
                move, state = source.choice(slow)
                machine(move)


if __name__ == "__main__":
    unittest.main()

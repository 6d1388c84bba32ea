import random
import unittest
import unittest.mock

from draws import DEVICE, ROW, USE, draws
from slow import (sets_of, slow_counted_moves, slow_counted_first, slow_counted_table, slow_is_quiet, slow_loud_length,
                  slow_moves, slow_table)
from takendown.devices import Device
from takendown.errors import InvalidMove, InvalidNumber, LimitExceeded, UnknownName
from takendown.machines import play
from takendown.moves import end_of
from takendown.rows import Row
from takendown.tables import Table
from takendown.users import CountedTable, counted, fewest_users, is_closed_for
from test_moves import STRANGE_MOVES
from test_tables import NO_LIMITS, WRONG_NAMES
from values import EqualToAll, strange_values

NO_USERS = [-1, 10, True, False, None, "1", 2.0, [], (), 10 ** 59, EqualToAll()]

CROWD = Device({"w": (USE,)}, crowds={"c": ("d", (USE, ("start", "w")))})
CLOSED = Row(("close", "d"), ("drain", "d"), ("halt", "w"))


def starts(work):
    return (("start", work),)


# Users that are inside when the gate is closed start u, v and w, each at another time; only one behind the other
# these bring u to be armed behind the step at which the row waits for it.
BY_TURNS = (("test", "e", (("test", "f", starts("v"), starts("u")),), (("test", "f", starts("w"), ()),)),)
THREE = Device({"u": (("set", "g"),), "v": (("test", "g", (("set", "h"),), ()),), "w": (("test", "h", starts("u"), ()),)},
               crowds={"c": ("d", BY_TURNS)})
THREE_ROW = Row(("close", "d"), ("set", "e"), ("set", "f"), ("clear", "e"), ("drain", "d"), ("settle", "u"),
                ("settle", "v"), ("settle", "w"))
TWO = Device({"u": (("set", "g"),), "v": (("test", "g", starts("u"), ()),)},
             crowds={"c": ("d", (("test", "f", starts("v"), (("test", "e", starts("u"), ()),)),))})
TWO_ROW = Row(("close", "d"), ("set", "e"), ("set", "f"), ("drain", "d"), ("settle", "u"), ("settle", "v"))
FEWEST = [
    (None, CROWD, CLOSED), (None, Device({"w": (USE,)}), Row()),
    (0, Device({"w": (USE,)}, crowds={"c": ("d", (USE,))}, armed=("w",)), Row(("close", "d"))),
    (0, CROWD, Row()), (1, CROWD, Row(("close", "d"))), (1, CROWD, Row(("close", "d"), ("drain", "d"))),
    (2, TWO, TWO_ROW), (3, THREE, THREE_ROW),
]


class TestCountedTable(unittest.TestCase):
    def test_the_states_of_a_small_device(self):
        device, row = Device({"w": (USE,)}, crowds={"c": ("d", (USE,))}), Row(("close", "d"))
        table = CountedTable(device, row, 2)
        states = [(((False, None),), (), (), ((many,),), done) for many in range(3) for done in range(2)]
        self.assertEqual(sorted(map(repr, table.states())), sorted(map(repr, states)))
        self.assertEqual((len(table), table.loud()), (6, [("come", "c"), ("step",), ("step",)]))

    def test_most(self):
        for most in range(10):
            table = CountedTable(CROWD, CLOSED, most)
            self.assertEqual(max(sum(state[3][0]) for state in table.states()), most)
            self.assertIsNone(table.loud())
        two = CountedTable(DEVICE, Row(), 2, limit=100000)
        self.assertEqual(max(sum(map(sum, state[3])) for state in two.states()), 2)

    def test_new_lists_and_keywords(self):
        table = CountedTable(limit=100, most=1, row=Row(("close", "d")), device=CROWD)
        table.states().clear()
        table.loud().clear()
        self.assertEqual(len(table.states()), len(table))
        self.assertEqual(table.loud(), [("come", "c"), ("step",), ("step",)])
        with self.assertRaises(TypeError):
            CountedTable(CROWD, CLOSED, 1, 6000)

    def test_in(self):
        table = CountedTable(CROWD, CLOSED, 2)
        for state in table.states():
            self.assertIs(state in table, True)
        none = ((False, None),)
        for value in [(none, (), (), ((3, 0),), 0), (none, (), (), ((1, 2),), 0), (none, (), (), ((1, 0),), 2),
                      (none, (), (), ((0, 0),), 4), (none, (), (), ((True, 0),), 0), (none, (), (), ((1, 0),), True),
                      (((0, None),), (), (), ((0, 0),), 0), (none, (), (), ([0, 0],), 0), (none, (), (), [(0, 0)], 0),
                      (none, (), (), ((0,),), 0), (none, (), (), ((),), 0), (none, (), (), ((0, 0, 0),), 0),
                      (none, (), (), (), 0), (none, (), (), ((0, -1),), 0), (none, (), (), ((0, 0), (0, 0)), 0),
                      (none, (), (), ((0, 0),)), [none, (), (), ((0, 0),), 0], ((True, None), (), (), ((0, 0),), 0),
                      (none, (), (), ((None, 0),), 0), (none, (), (), ((0, "0"),), 0)] + strange_values():
            self.assertIs(value in table, False, value)

    def test_numbers(self):
        for most in NO_USERS:
            for limit in (0, 1, 6000):
                with self.assertRaises(InvalidNumber) as caught:
                    CountedTable(DEVICE, ROW, most, limit=limit)
                self.assertIs(caught.exception.value, most)
            with self.assertRaises(InvalidNumber) as caught:
                is_closed_for(DEVICE, ROW, most, [])
            self.assertIs(caught.exception.value, most)
        for limit in NO_LIMITS:
            for call in (lambda limit: CountedTable(CROWD, CLOSED, 9, limit=limit),
                         lambda limit: fewest_users(CROWD, CLOSED, limit=limit)):
                with self.assertRaises(InvalidNumber) as caught:
                    call(limit)
                self.assertIs(caught.exception.value, limit)

    def test_the_limit(self):
        for most in (0, 1, 3):
            many = len(CountedTable(CROWD, CLOSED, most))
            self.assertEqual(len(CountedTable(CROWD, CLOSED, most, limit=many)), many)
            with self.assertRaises(LimitExceeded) as caught:
                CountedTable(CROWD, CLOSED, most, limit=many - 1)
            self.assertEqual(caught.exception.limit, many - 1)
        with self.assertRaises(LimitExceeded) as caught:
            CountedTable(THREE, THREE_ROW, 9)
        self.assertEqual(caught.exception.limit, 6000)

    def test_unknown_names_first(self):
        for call in (lambda: CountedTable(DEVICE, WRONG_NAMES, -1, limit=0), lambda: counted(DEVICE, WRONG_NAMES, None),
                     lambda: fewest_users(DEVICE, WRONG_NAMES, limit=0), lambda: is_closed_for(DEVICE, WRONG_NAMES, 10, 0)):
            with self.assertRaises(UnknownName) as caught:
                call()
            self.assertEqual(caught.exception.name, "g")

    def test_draws(self):
        louds = 0
        for number, (device, row) in enumerate(draws(61, 160)):
            most = number % 4
            depths = slow_counted_table(device, row, most, 500)
            if depths is None:
                continue
            table = CountedTable(device, row, most)
            self.assertEqual(sorted(map(repr, table.states())), sorted(map(repr, depths)))
            self.assertEqual(len(table), len(depths))
            self.assertTrue(all(state in table for state in depths))
            loud, least = table.loud(), slow_loud_length(device, row, depths, sets_of)
            self.assertEqual(None if loud is None else len(loud), least)
            self.assertIs(is_closed_for(device, row, most, table.states()), loud is None)
            if loud is not None:
                louds += 1
                check_loud(self, device, row, most, loud)
        self.assertGreater(louds, 30)


def check_loud(test, device, row, most, loud):
    """Check that a counted loud run is one, of at most most users."""
    machine = play(device, row, loud)
    test.assertTrue(machine.freed)
    test.assertEqual((loud[-1], machine.touches), (("step",), 0))
    test.assertFalse(slow_is_quiet(device, row, machine.state()))
    test.assertLessEqual(machine.most, most)


class TestFewestUsers(unittest.TestCase):
    def test_numbers(self):
        for number, device, row in FEWEST:
            told = fewest_users(device, row, limit=100000)
            if number is None:
                self.assertIsNone(told)
                continue
            self.assertEqual(told[0], number)
            check_loud(self, device, row, number, told[1])
            self.assertEqual(told[1], CountedTable(device, row, number, limit=100000).loud())
            self.assertIsInstance(told, tuple)
            for fewer in range(number):
                table = CountedTable(device, row, fewer, limit=100000)
                self.assertIsNone(table.loud())
                self.assertIs(is_closed_for(device, row, fewer, table.states()), True)

    def test_the_limit(self):
        for number, device, row in FEWEST:
            tables = [Table(device, row, limit=100000)]
            tables += [CountedTable(device, row, most, limit=100000) for most in range((number or -1) + 1)]
            many = max(map(len, tables))
            self.assertEqual(fewest_users(device, row, limit=many), fewest_users(device, row, limit=100000))
            if many > 1:
                with self.assertRaises(LimitExceeded) as caught:
                    fewest_users(device, row, limit=many - 1)
                self.assertEqual(caught.exception.limit, many - 1)

    def test_a_counted_table_that_is_larger_than_the_table(self):
        piece = ("piece", "l", (("test", "f", starts("v"), (("test", "e", starts("u"), ()),)),))
        device = Device({"u": (("set", "g"),), "v": (("test", "g", starts("u"), ()),), "x": (USE,) * 8, "y": (USE,) * 8},
                        crowds={"c": ("d", (piece,))}, armed=("x", "y"))
        row = Row(("halt", "x"), ("halt", "y")) + TWO_ROW
        many = len(Table(device, row))
        self.assertLess(many, len(CountedTable(device, row, 2)))
        self.assertEqual(fewest_users(device, row)[0], 2)
        with self.assertRaises(LimitExceeded) as caught:
            fewest_users(device, row, limit=many)
        self.assertEqual(caught.exception.limit, many)

    def test_not_enough_users(self):
        with unittest.mock.patch("takendown.users.MOST_USERS", 1):
            with self.assertRaises(LimitExceeded) as caught:
                fewest_users(TWO, TWO_ROW, limit=50000)
            self.assertEqual(caught.exception.limit, 50000)
        with unittest.mock.patch("takendown.users.MOST_USERS", 2):
            self.assertEqual(fewest_users(TWO, TWO_ROW, limit=50000)[0], 2)

    def test_draws(self):
        found = {}
        for device, row in draws(62, 120):
            if slow_table(device, row, 300) is None:
                continue
            told = fewest_users(device=device, row=row, limit=20000)
            self.assertEqual(told is None, Table(device, row).loud() is None)
            if told is not None:
                found[told[0]] = True
                check_loud(self, device, row, told[0], told[1])
                self.assertGreaterEqual(len(told[1]), len(Table(device, row).loud()))
                if told[0] > 0:
                    self.assertIsNone(CountedTable(device, row, told[0] - 1, limit=20000).loud())
        self.assertLessEqual({0, 1}, set(found))


class TestIsClosedFor(unittest.TestCase):
    STATES = CountedTable(CROWD, CLOSED, 2).states()

    def is_closed(self, value, most=2):
        return is_closed_for(CROWD, CLOSED, most, value)

    def test_right_lists(self):
        self.assertIs(self.is_closed(self.STATES), True)
        self.assertIs(is_closed_for(value=self.STATES[::-1], most=2, row=CLOSED, device=CROWD), True)

    def test_other_numbers(self):
        self.assertIs(self.is_closed(self.STATES, 1), False)
        self.assertIs(self.is_closed(self.STATES, 3), False)
        for most in range(4):
            self.assertIs(self.is_closed(CountedTable(CROWD, CLOSED, most).states(), most), True)

    def test_one_left_out_or_twice(self):
        for at, state in enumerate(self.STATES):
            self.assertIs(self.is_closed(self.STATES[:at] + self.STATES[at + 1:]), False)
            self.assertIs(self.is_closed(self.STATES + [state]), False)

    def test_one_more(self):
        none = ((False, None),)
        for value in [(none, (), (), ((0, 0),), 4), (((True, None),), (), (), ((0, 0),), 3), (none, (), (), ((3, 0),), 0),
                      (none, (), (), ((2, 1),), 0)]:
            self.assertNotIn(value, self.STATES)
            self.assertIs(self.is_closed(self.STATES + [value]), False)

    def test_bent(self):
        for at, state in enumerate(self.STATES):
            works, flags, guests, crowds, done = state
            counts = tuple(tuple(bool(many) if many < 2 else many for many in one) for one in crowds)
            for wrong in [(works, flags, guests, counts, done), list(state), sets_of(state), None,
                          (works, flags, guests, list(crowds), done), (works, flags, guests, crowds, bool(done)),
                          (tuple((int(armed), place) for armed, place in works), flags, guests, crowds, done)]:
                self.assertIs(self.is_closed(self.STATES[:at] + [wrong] + self.STATES[at + 1:]), False)

    def test_any_value(self):
        for value in [tuple(self.STATES), dict.fromkeys(self.STATES), []] + strange_values():
            self.assertIs(self.is_closed(value), False)
        for wrong in strange_values():
            self.assertIs(self.is_closed(self.STATES + [wrong]), False)

    def test_locks_held_by_two(self):
        held = (("take", "l"), ("give", "l"))
        device, row = Device({"v": held, "w": held}), Row(("halt", "v"), ("halt", "w"))
        states = [(((False, one), (False, two)), (), (), (), done)
                  for one in (None, 0, 1) for two in (None, 0, 1) for done in range(3)
                  if (one, two) != (1, 1) and (done == 0 or one is None) and (done < 2 or two is None)]
        self.assertIs(is_closed_for(device, row, 0, states), True)
        self.assertIs(is_closed_for(device, row, 0, states + [(((False, 1), (False, 1)), (), (), (), 0)]), False)


class TestCounted(unittest.TestCase):
    def check(self, device, row, run):
        told = counted(device, row, run)
        machine = play(device, row, told)
        self.assertEqual(machine.state(), end_of(device, row, run))
        self.assertEqual([move for move in told if move[0] not in ("come", "pass")],
                         [move for move in run if move[0] not in ("come", "pass")])
        self.check_move_by_move(device, row, run, told)
        return machine

    def check_move_by_move(self, device, row, run, told):
        """Check that the counted run has a share for each move, behind which the occupied places are those behind it."""
        machine = play(device, row, [])
        states = [machine.state()]
        for move in told:
            machine(move)
            states.append(machine.state())
        ends = {0}
        for number, move in enumerate(run):
            ahead = end_of(device, row, run[:number + 1])
            further = set()
            for start in ends:
                for at in range(start, len(told)):
                    if told[at] != move[:4]:
                        break
                    if states[at + 1] == ahead:
                        further.add(at + 1)
            ends = further
        self.assertIn(len(told), ends)

    def test_nothing(self):
        self.assertEqual(counted(CROWD, CLOSED, []), [])

    def test_small_runs(self):
        come, stay, leave = ("come", "c"), ("pass", "c", 0, 0, True), ("pass", "c", 0, 0, False)
        self.assertEqual(counted(CROWD, CLOSED, [come]), [come])
        self.assertEqual(counted(CROWD, CLOSED, [come, leave]), [come, leave[:4]])
        self.assertEqual(counted(CROWD, CLOSED, [come, stay]), [come, come, leave[:4]])
        self.assertEqual(counted(run=[come, ("step",), stay, leave], row=CLOSED, device=CROWD),
                         [come, come, ("step",), leave[:4], leave[:4]])

    def test_others_as_they_are(self):
        run = [("begin", "w"), ("enter", "g"), ("step",), ("go", "w", 1), ("go", "g", 0)]
        told = counted(DEVICE, ROW, run)
        self.assertEqual(told, run)
        told.clear()
        self.assertEqual(len(run), 5)

    def test_many_that_stay(self):
        body = (USE,) * 4
        device = Device({"w": (USE,)}, crowds={"c": ("d", body)})
        run = [("come", "c"), ("step",)] + [("pass", "c", place, 0, True) for place in (0, 1, 2, 3, 3, 2, 1, 0)]
        run += [("pass", "c", place, 0, False) for place in range(4)]
        machine = self.check(device, Row(("close", "d")), run)
        self.assertEqual(machine.inside, 0)
        self.assertLessEqual(machine.most, 12)

    def test_leaving_asks_for_no_more_users(self):
        device = Device({"w": (USE,)}, crowds={"c": ("d", (USE,))})
        run = [("come", "c"), ("pass", "c", 0, 0, False)] * 30
        told = counted(device, Row(), run)
        self.assertEqual(told, [move[:4] for move in run])
        run = run + [("come", "c")] * 5
        self.assertEqual(counted(device, Row(), run), [move[:4] for move in run])

    def test_invalid_moves(self):
        run = [("come", "c"), ("step",), ("pass", "c", 0, 0, True)]
        for value in [tuple(run), {}, None, "step", 3, EqualToAll()]:
            with self.assertRaises(InvalidMove) as caught:
                counted(CROWD, CLOSED, value)
            self.assertIs(caught.exception.move, value)
        for wrong in STRANGE_MOVES + strange_values() + [("pass", "c", 0, 0, 1), ("pass", "c", 0, False, True)]:
            with self.assertRaises(InvalidMove) as caught:
                counted(CROWD, CLOSED, run[:2] + [wrong] + run[2:])
            self.assertIs(caught.exception.move, wrong)

    def test_draws(self):
        source = random.Random(9)
        crowds = 0
        for device, row in draws(63, 150):
            if not device.crowds():
                continue
            crowds += 1
            self.check(device, row, some_run(source, device, row, 30))
        self.assertGreater(crowds, 50)


def some_run(source, device, row, many):
    """Return a run of at most so many moves, most of them of crowds."""
    run, state = [], end_of(device, row, [])
    for _ in range(many):
        found = slow_moves(device, row, state)
        users = [one for one in found if one[0][0] in ("come", "pass")]
        if not found:
            break
        move, state = source.choice(users if users and source.random() < 0.7 else found)
        run.append(move)
    return run


class TestCountedRunsOfSets(unittest.TestCase):
    """What any number of users do is a run of occupied places."""

    def test_a_counted_run_is_a_run_of_sets(self):
        source = random.Random(10)
        for device, row in draws(64, 80):
            state, run = slow_counted_first(device), []
            for _ in range(20):
                found = slow_counted_moves(device, row, None, state)
                if not found:
                    break
                move, ahead = source.choice(found)
                if move[0] == "pass":
                    move = move + (state[3][device.crowds().index(move[1])][move[2]] > 1,)
                run.append(move)
                state = ahead
            self.assertEqual(end_of(device, row, run), sets_of(state))

    def test_loud_exactly_if_for_some_number_of_users(self):
        for device, row in draws(65, 80):
            if slow_table(device, row, 120) is None:
                continue
            loud = Table(device, row).loud()
            if loud is None:
                for most in range(3):
                    self.assertIsNone(CountedTable(device, row, most, limit=20000).loud())
            else:
                machine = play(device, row, counted(device, row, loud))
                self.assertTrue(machine.freed)
                self.assertLessEqual(fewest_users(device, row, limit=50000)[0], machine.most)


if __name__ == "__main__":
    unittest.main()

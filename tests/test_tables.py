import itertools
import unittest

from draws import DEVICE, ROW, USE, draws
from slow import slow_first, slow_is_quiet, slow_loud_length, slow_moves, slow_table
from takendown.devices import Device
from takendown.errors import InvalidNumber, InvalidState, LimitExceeded, UnknownName
from takendown.moves import after, end_of, is_run
from takendown.rows import Row
from takendown.states import first_state, is_quiet
from takendown.tables import Table, is_closed, runs
from values import EqualToAll, strange_values

CHAIN = Device({"v": (("start", "w"),), "w": (("start", "v"),)}, armed=("w",))
SHUT = Row.shut("w") + Row(("halt", "v"))
NO_LIMITS = [0, -1, 100001, True, False, None, "6000", 1.5, [], (), 10 ** 59, EqualToAll()]
WRONG_NAMES = Row(("close", "door"), ("halt", "g"), ("halt", "x"))


def small_draws(seed, many, most=400):
    """Yield (device, row, depths) for the draws whose tables are small."""
    for device, row in draws(seed, many):
        depths = slow_table(device, row, most)
        if depths is not None:
            yield device, row, depths


class TestExample(unittest.TestCase):
    def test_document(self):
        table = Table(CHAIN, Row(("halt", "v"), ("halt", "w")))
        self.assertEqual(repr(table.loud()), "[('begin', 'w'), ('step',), ('go', 'w', 0), ('step',), ('step',)]")
        self.assertIs(is_closed(CHAIN, SHUT, Table(CHAIN, SHUT).states()), True)


class TestTable(unittest.TestCase):
    def test_the_states_of_a_small_device(self):
        device, row = Device({"w": (USE, ("set", "f"))}, armed=("w",)), Row(("halt", "w"))
        table = Table(device, row)
        states = [(((True, None),), (False,), (), (), 0), (((False, 0),), (False,), (), (), 0),
                  (((False, 1),), (False,), (), (), 0), (((False, None),), (True,), (), (), 0),
                  (((False, None),), (False,), (), (), 1), (((False, None),), (True,), (), (), 1)]
        self.assertEqual(sorted(map(repr, table.states())), sorted(map(repr, states)))
        self.assertEqual([table.depth(state) for state in states], [0, 1, 2, 3, 1, 4])
        self.assertEqual([len(table.run(state)) for state in states], [0, 1, 2, 3, 1, 4])
        self.assertEqual(table.waiting(), states[1:3])
        self.assertIsNone(table.loud())
        self.assertEqual(len(table), 6)

    def test_new_lists(self):
        table = Table(CHAIN, SHUT)
        for call in (table.states, table.waiting):
            call().clear()
            self.assertGreater(len(call()), 0)
        table = Table(CHAIN, Row())
        table.loud().clear()
        table.run(first_state(CHAIN, Row())).append(3)
        self.assertEqual((table.loud(), table.run(first_state(CHAIN, Row()))), ([("step",)], []))

    def test_keywords(self):
        self.assertEqual(len(Table(row=SHUT, device=CHAIN, limit=100000)), len(Table(CHAIN, SHUT)))
        with self.assertRaises(TypeError):
            Table(CHAIN, SHUT, 6000)
        table = Table(CHAIN, SHUT)
        self.assertEqual((table.depth(state=table.states()[0]), table.run(state=table.states()[0])), (0, []))

    def test_loud_runs(self):
        guarded = Device({"w": (USE,)}, {"g": ("d", (USE,))}, {"c": ("d", (("start", "w"),))})
        for row, moves in (((), 1), ((("close", "d"),), 3), ((("close", "d"), ("drain", "d")), 5),
                           ((("close", "d"), ("bar", "w")), 4), ((("close", "d"), ("drain", "d"), ("halt", "w")), None)):
            loud = Table(guarded, Row(*row)).loud()
            self.assertEqual(None if loud is None else len(loud), moves)

    def test_no_limits(self):
        for value in NO_LIMITS:
            with self.assertRaises(InvalidNumber) as caught:
                Table(DEVICE, ROW, limit=value)
            self.assertIs(caught.exception.value, value)

    def test_the_limit(self):
        for device, row in ((CHAIN, SHUT), (CHAIN, Row()), (Device({"w": (USE,)}), Row())):
            many = len(Table(device, row))
            self.assertEqual(len(Table(device, row, limit=many)), many)
            if many > 1:
                with self.assertRaises(LimitExceeded) as caught:
                    Table(device, row, limit=many - 1)
                self.assertEqual(caught.exception.limit, many - 1)

    def test_the_limit_if_nothing_is_told(self):
        body = (("test", "e", (), ()), ("choose", (("use",),), ()), ("test", "f", (), ()), ("use",), ("use",))
        device = Device({"w": (("set", "e"), ("clear", "e"), ("set", "f"))}, crowds={"c": ("d", body), "b": ("d", body)},
                        armed=("w",))
        with self.assertRaises(LimitExceeded) as caught:
            Table(device, Row())
        self.assertEqual(caught.exception.limit, 6000)
        self.assertGreater(len(Table(device, Row(), limit=100000)), 6000)

    def test_order_of_errors(self):
        for limit in (0, 1, 6000):
            with self.assertRaises(UnknownName) as caught:
                Table(DEVICE, WRONG_NAMES, limit=limit)
            self.assertEqual(caught.exception.name, "g")

    def test_not_in_the_table(self):
        table = Table(CHAIN, SHUT)
        freed = after(CHAIN, SHUT, end_of(CHAIN, SHUT, [("step",)] * 3), ("step",))
        never = (((True, None), (True, None)), (), (), (), 0)
        bent = (((0, None), (True, None)), (), (), (), 0)
        whole = (((False, None), (True, None)), (), (), (), False)
        for value in [freed, never, bent, whole, list(first_state(CHAIN, SHUT))] + strange_values():
            self.assertIs(value in table, False)
            for call in (table.depth, table.run):
                with self.assertRaises(InvalidState) as caught:
                    call(value)
                self.assertIs(caught.exception.value, value)
        self.assertIs(first_state(CHAIN, SHUT) in table, True)


class TestTablesOfDraws(unittest.TestCase):
    def test_against_a_slow_search(self):
        louds = 0
        for device, row, depths in small_draws(51, 150):
            table = Table(device, row)
            self.assertEqual(sorted(map(repr, table.states())), sorted(map(repr, depths)))
            self.assertEqual(len(table), len(depths))
            for state, depth in depths.items():
                self.assertIn(state, table)
                self.assertEqual(table.depth(state), depth)
                self.assertEqual(len(table.run(state)), depth)
                self.assertEqual(end_of(device, row, table.run(state)), state)
            waiting = [state for state in depths if ("step",) not in [move for move, _ in slow_moves(device, row, state)]]
            self.assertEqual(sorted(map(repr, table.waiting())), sorted(map(repr, waiting)))
            louds += self.check_loud(device, row, table, depths)
        self.assertGreater(louds, 30)

    def check_loud(self, device, row, table, depths):
        loud, least = table.loud(), slow_loud_length(device, row, depths)
        self.assertEqual(None if loud is None else len(loud), least)
        self.assertEqual(loud, table.loud())
        if loud is None:
            self.assertIs(is_closed(device, row, table.states()), True)
            return 0
        self.assertIs(is_run(device, row, loud), True)
        self.assertEqual(loud[-1], ("step",))
        self.assertEqual(end_of(device, row, loud[:-1])[4], len(row))
        self.assertIs(is_quiet(device, row, end_of(device, row, loud)), False)
        self.assertIs(is_closed(device, row, table.states()), False)
        return 1


class TestIsClosed(unittest.TestCase):
    STATES = Table(CHAIN, SHUT).states()

    def test_right_lists(self):
        self.assertIs(is_closed(CHAIN, SHUT, self.STATES), True)
        self.assertIs(is_closed(value=self.STATES[::-1], row=SHUT, device=CHAIN), True)

    def test_more_states_than_runs_lead_to(self):
        device = Device({"w": (USE,)}, crowds={"c": ("d", (USE,))})
        row = Row(("close", "d"), ("drain", "d"), ("halt", "w"))
        states = Table(device, row).states()
        self.assertIs(is_closed(device, row, states), True)
        more = [(((False, 0),), (), (), ((),), done) for done in range(3)]
        armed = [(((True, None),), (), (), ((),), done) for done in range(3)]
        inside = [(((False, 0),), (), (), ((0,),), done) for done in range(2)]
        armed_inside = [(((True, None),), (), (), ((0,),), done) for done in range(2)]
        self.assertIs(is_closed(device, row, states + more), False)
        self.assertIs(is_closed(device, row, states + more + inside), True)
        self.assertIs(is_closed(device, row, states + more + inside + armed), False)
        self.assertIs(is_closed(device, row, states + more + inside + armed + armed_inside), True)

    def test_one_left_out(self):
        for at in range(len(self.STATES)):
            self.assertIs(is_closed(CHAIN, SHUT, self.STATES[:at] + self.STATES[at + 1:]), False)

    def test_one_twice(self):
        for state in self.STATES:
            self.assertIs(is_closed(CHAIN, SHUT, self.STATES + [state]), False)

    def test_one_more(self):
        loud = (((True, None), (False, None)), (), (), (), 3)
        freed = (((False, None), (False, None)), (), (), (), 4)
        open_end = (((False, 0), (True, None)), (), (), (), 0)
        for state in (loud, freed, open_end):
            self.assertIs(is_closed(CHAIN, SHUT, self.STATES + [state]), False)

    def test_loud_rows(self):
        states = Table(CHAIN, Row()).states()
        self.assertIs(is_closed(CHAIN, Row(), states), False)

    def test_values_that_are_no_list_of_states(self):
        for value in [tuple(self.STATES), dict.fromkeys(self.STATES), set(self.STATES), []] + strange_values():
            self.assertIs(is_closed(CHAIN, SHUT, value), False)
        for wrong in strange_values() + [list(self.STATES[0])]:
            self.assertIs(is_closed(CHAIN, SHUT, self.STATES + [wrong]), False)
            self.assertIs(is_closed(CHAIN, SHUT, [wrong] + self.STATES[1:]), False)

    def test_bools_and_integers(self):
        for at, state in enumerate(self.STATES):
            works, flags, guests, crowds, done = state
            for bent in ((tuple((int(one), place) for one, place in works), flags, guests, crowds, done),
                         (works, flags, guests, crowds, bool(done)), (list(works), flags, guests, crowds, done)):
                self.assertIs(is_closed(CHAIN, SHUT, self.STATES[:at] + [bent] + self.STATES[at + 1:]), False)

    def test_locks_held_by_two(self):
        held = (("take", "l"), ("give", "l"))
        device, row = Device({"v": held, "w": held}), Row(("halt", "v"), ("halt", "w"))
        torn = (((False, 1), (False, 1)), (), (), (), 0)
        states = [(((False, one), (False, two)), (), (), (), done)
                  for one in (None, 0, 1) for two in (None, 0, 1) for done in range(3)
                  if (one, two) != (1, 1) and (done == 0 or one is None) and (done < 2 or two is None)]
        self.assertIs(is_closed(device, row, states), True)
        self.assertIs(is_closed(device, row, states + [torn]), False)

    def test_unknown_names(self):
        for value in (None, []):
            with self.assertRaises(UnknownName) as caught:
                is_closed(DEVICE, WRONG_NAMES, value)
            self.assertEqual(caught.exception.name, "g")

    def test_draws(self):
        for device, row, depths in small_draws(52, 40, 60):
            states = list(depths)
            quiet = slow_loud_length(device, row, depths) is None
            self.assertIs(is_closed(device, row, states), quiet)
            for at in range(len(states)):
                self.assertIs(is_closed(device, row, states[:at] + states[at + 1:]), False)


class TestRuns(unittest.TestCase):
    def slow_runs(self, device, row, most):
        """Return the list of all runs in their order."""
        found, level = [], [([], slow_first(device))]
        for _ in range(most + 1):
            found.extend(run for run, _ in level)
            level = [(run + [move], ahead) for run, state in level if state[4] <= len(row)
                     for move, ahead in slow_moves(device, row, state)]
        return found

    def test_a_small_device(self):
        device, row = Device({"w": (USE,)}, armed=("w",)), Row(("cancel", "w"))
        begin, go, step = ("begin", "w"), ("go", "w", 0), ("step",)
        self.assertEqual(list(runs(device, row, 0)), [[]])
        self.assertEqual(list(runs(device, row, 1)), [[], [begin], [step]])
        self.assertEqual(list(runs(device, row, 10 ** 59)), list(runs(device, row, 9)))
        self.assertEqual(list(runs(device, row, 9)), [
            [], [begin], [step], [begin, go], [begin, step], [step, step], [begin, go, step], [begin, step, go],
            [begin, step, step], [begin, go, step, step], [begin, step, go, step]])

    def test_nothing_behind_the_free(self):
        self.assertEqual(list(runs(CHAIN, Row(), 2)), [[], [("begin", "w")], [("step",)], [("begin", "w"), ("go", "w", 0)],
                                                       [("begin", "w"), ("step",)]])

    def test_numbers(self):
        crowd = Device({"w": (USE,)}, crowds={"c": ("d", (USE,))})
        told = [len([run for run in runs(crowd, Row(), 4) if len(run) == many]) for many in range(5)]
        # With nobody inside two moves are possible, otherwise four: one ends, one leads back, two change nothing.
        self.assertEqual(told, [1, 2, 4, 10, 24])

    def test_draws(self):
        for device, row in draws(53, 60):
            told = list(itertools.islice(runs(most=4, row=row, device=device), 3000))
            self.assertEqual(told, self.slow_runs(device, row, 4)[:3000])

    def test_runs_are_new_lists(self):
        told = []
        for run in runs(CHAIN, SHUT, 3):
            told.append(list(run))
            run.append("x")
        self.assertEqual(told, self.slow_runs(CHAIN, SHUT, 3))

    def test_unknown_names_ahead_of_the_first_run(self):
        with self.assertRaises(UnknownName) as caught:
            list(runs(DEVICE, WRONG_NAMES, 0))
        self.assertEqual(caught.exception.name, "g")

    def test_runs_reach_the_table(self):
        for device, row, depths in small_draws(54, 30, 12):
            most = max(depths.values())
            if sum(1 for _ in itertools.islice(runs(device, row, most), 5000)) == 5000:
                continue
            ends = {repr(end_of(device, row, run)) for run in runs(device, row, most)}
            self.assertLessEqual(set(map(repr, depths)), ends)


class TestQuietOrLoud(unittest.TestCase):
    def test_exactly_the_loud_rows_have_a_loud_run(self):
        for device, row, depths in small_draws(55, 100, 200):
            ends = [state for state in depths if state[4] == len(row)]
            loud = any(not slow_is_quiet(device, row, state) for state in ends)
            self.assertIs(Table(device, row).loud() is not None, loud)


if __name__ == "__main__":
    unittest.main()

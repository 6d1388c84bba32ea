"""The document read once more, point by point: one class for each point, over the whole program.

The tests of the single files look closer; here each promise has one test at least that fails if it is broken.
"""

import itertools
import random
import unittest

from draws import DEVICE, ROW, USE, careful_row, drawn_device, drawn_row, draws, patient_row
from slow import slow_counted_first, slow_counted_moves, slow_moves, slow_table
from slow_rows import slow_word
from takendown.bench import Bench
from takendown.bodies import Body
from takendown.cheapest import cheapest, is_floor
from takendown.console import Console
from takendown.devices import Device
from takendown.edits import edited, edits, needless, needless_steps
from takendown.endings import ending_of, is_ending, parts
from takendown.errors import (InvalidDevice, InvalidEdit, InvalidItem, InvalidMove, InvalidState, InvalidStep, InvalidStock,
                              LimitExceeded, NotRight, UnknownName)
from takendown.items import is_body, is_item, is_name, is_step
from takendown.keepers import Keeper
from takendown.machines import Machine, play
from takendown.moves import after, end_of, is_run, moves
from takendown.parts import joined, merges
from takendown.rows import Row, fits
from takendown.shorts import is_short, short_paper
from takendown.states import first_state, held_by, is_quiet, is_state
from takendown.stocks import price, rows_of
from takendown.tables import Table, is_closed, runs
from takendown.texts import read_body, read_device, read_row, write_body, write_device, write_row
from takendown.threads import Crowd, Guest, Work
from takendown.users import CountedTable, counted, fewest_users, is_closed_for
from takendown.verdicts import is_right, is_verdict, unlike, verdict
from takendown.waits import is_dead, is_round, is_waiting, movers, waiting_run
from test_parts import renamed_device
from test_users import TWO, TWO_ROW
from test_waits import CROSSED, CROSSED_ROW, CROWD, SELF, SETTLE

CLOSE, DRAIN, HALT, BAR = ("close", "d"), ("drain", "d"), ("halt", "w"), ("bar", "w")
GOOD = Row(CLOSE, DRAIN, HALT)
KINDS = (careful_row, patient_row, drawn_row)


def small(seed, many, most_states=60, kinds=KINDS):
    """Yield drawn devices and rows that have but few states."""
    for device, row in draws(seed, many, kinds):
        if slow_table(device, row, most_states) is not None:
            yield device, row


def bent(value):
    """Yield all values that are like a nested one but for one bool in place of 0 or 1, or 0 or 1 in place of a bool,
    or one list in place of a tuple, or a tuple in place of a list."""
    if isinstance(value, bool):
        yield int(value)
    elif isinstance(value, int) and value in (0, 1):
        yield bool(value)
    elif isinstance(value, (tuple, list)):
        yield list(value) if isinstance(value, tuple) else tuple(value)
        for at, one in enumerate(value):
            for other in bent(one):
                yield value[:at] + type(value)([other]) + value[at + 1:]


class TestPoint1(unittest.TestCase):
    def test_all_that_is_told_of_a_device_and_a_row(self):
        self.assertEqual(verdict(CROWD, GOOD)[0], "right")
        self.assertIs(is_verdict(CROWD, GOOD, verdict(CROWD, GOOD)), True)
        self.assertEqual(fewest_users(TWO, TWO_ROW, limit=20000)[0], 2)
        self.assertIs(is_closed_for(TWO, TWO_ROW, 1, CountedTable(TWO, TWO_ROW, 1).states()), True)
        self.assertIs(is_short(CROWD, GOOD, short_paper(CROWD, GOOD)), True)
        cost, rows, floor = cheapest(CROWD, [HALT, DRAIN, CLOSE, BAR])
        self.assertEqual((cost, rows), (price(GOOD), [GOOD]))
        self.assertIs(is_floor(CROWD, [HALT, DRAIN, CLOSE, BAR], cost, floor), True)
        self.assertEqual(needless_steps(CROWD, Row(BAR) + GOOD), [0])
        other = renamed_device(CROWD)
        merged = next(iter(merges(GOOD, Row(("close", "zd"), ("drain", "zd"), ("halt", "zw")))))
        self.assertIs(is_right(joined(CROWD, other), merged, limit=50000), True)

    def test_it_is_decided_for_every_device_and_row(self):
        for device, row in small(201, 90):
            told = verdict(device, row)
            self.assertEqual(told[0], slow_word(device, row))
            self.assertIs(is_verdict(device, row, told), True)


class TestPoint2(unittest.TestCase):
    def test_names(self):
        for value in ("a", "z", "abcdefgh"):
            self.assertIs(is_name(value), True)
        for value in ("", "abcdefghi", "A", "a1", "a b", "a_b", b"a", None, 1, ["a"]):
            self.assertIs(is_name(value), False)

    def checked(self):
        """Yield (checker, right value) for all checkers that take any value."""
        state = (((True, 0), (True, None)), (True, False), (None,), ((0, 1), (0, 1)), 1)
        yield lambda value: is_state(DEVICE, ROW, value), state
        run = [("come", "c"), ("pass", "c", 0, 0, True), ("pass", "c", 1, 0, False), ("begin", "w"), ("go", "w", 0)]
        yield lambda value: is_run(CROWD, GOOD, value), run
        yield lambda value: is_closed(CROWD, GOOD, value), Table(CROWD, GOOD).states()
        yield lambda value: is_closed_for(CROWD, GOOD, 1, value), CountedTable(CROWD, GOOD, 1).states()
        yield lambda value: is_round(SELF, SETTLE, first_state(SELF, SETTLE), value), waiting_run(SELF, SETTLE)[1]
        for device, row in ((SELF, SETTLE), (CROSSED, CROSSED_ROW), (CROWD, Row(DRAIN))):
            yield lambda value, device=device, row=row: is_waiting(device, row, value), waiting_run(device, row)
            yield lambda value, device=device, row=row: is_verdict(device, row, value), ("waits", *waiting_run(device, row))
        states = Table(CROWD, GOOD).states()
        yield lambda value: is_ending(CROWD, GOOD, states, value), ending_of(CROWD, GOOD)
        for row in (GOOD, Row(), Row(CLOSE)):
            yield lambda value, row=row: is_verdict(CROWD, row, value), verdict(CROWD, row)
        yield lambda value: is_short(CROWD, GOOD, value), short_paper(CROWD, GOOD)
        floor = cheapest(CROWD, [HALT, DRAIN, CLOSE, BAR])[2]
        floor = [floor[0], next(member for member in floor if member[2] is not None)]
        yield lambda value: is_floor(CROWD, [HALT, DRAIN, CLOSE, BAR], 0, value), floor
        for one in (("test", "f", (USE,), ()), ("piece", "l", (USE,)), ("choose", (), (USE,))):
            yield is_item, one
            yield is_body, (one,)
        yield is_step, HALT

    def test_bools_and_lists_are_never_accepted(self):
        source = random.Random(202)
        for checker, value in self.checked():
            self.assertIs(checker(value), True, value)
            others = list(bent(value))
            for other in others if len(others) < 120 else source.sample(others, 120):
                self.assertIs(checker(other), False, other)

    def test_bools_and_lists_raise_errors(self):
        device = edited(CROWD, ("work", "v", (("test", "f", (), ()), USE)))
        first = first_state(CROWD, GOOD)
        machine = play(CROWD, GOOD, [("come", "c"), ("come", "c")])
        for call, value, kind in (
                (lambda value: Device({"w": value}), (("test", "f", (USE,), ()),), InvalidDevice),
                (Body, (("choose", (USE,), ()),), InvalidItem), (lambda value: Row(value), HALT, InvalidStep),
                (lambda value: edited(device, value), ("yes", "v", 0), InvalidEdit),
                (lambda value: moves(CROWD, GOOD, value), first, InvalidState),
                (lambda value: after(CROWD, GOOD, end_of(CROWD, GOOD, [("come", "c")]), value), ("pass", "c", 0, 0, False), InvalidMove),
                (lambda value: end_of(CROWD, GOOD, value), [("come", "c"), ("pass", "c", 0, 0, False)], InvalidMove),
                (lambda value: machine.attempt(lambda given: given(value)), ("pass", "c", 0, 0), InvalidMove),
                (lambda value: list(rows_of(value, 1)), [HALT, BAR], InvalidStock)):
            call(value)
            others = list(bent(value))
            self.assertTrue(others)
            for other in others:
                # Within a device, what is no body is told by the device.
                with self.assertRaises((kind, InvalidDevice)):
                    call(other)

    def test_what_was_passed_may_be_changed(self):
        works, guests, crowds = {"w": (USE,)}, {"g": ("d", (USE,))}, {"c": ("d", (USE,))}
        device = Device(works, guests, crowds)
        told = write_device(device)
        for entries in (works, guests, crowds):
            entries.clear()
        self.assertEqual(write_device(device), told)
        stock, changes, run = [HALT, BAR], [("work", "v", (USE,)), GOOD], [("come", "c")]
        cheapest(CROWD, stock)
        keeper = Keeper(CROWD, GOOD)
        keeper.together(changes)
        machine = play(CROWD, GOOD, run)
        changes.clear()
        run.clear()
        self.assertEqual((len(keeper), machine.made(), stock), (2, [("come", "c")], [HALT, BAR]))

    def test_what_was_returned_may_be_changed(self):
        machine = play(CROWD, GOOD, [("come", "c")])
        keeper = Keeper(CROWD, GOOD)
        bench = Bench()
        bench["d"], bench["r"] = CROWD, GOOD
        table = Table(CROWD, GOOD)
        for call in (CROWD.works, CROWD.threads, CROWD.gates, GOOD.steps, CROWD["c"].works, table.states, table.waiting,
                     machine.made, machine.moves, keeper.history, bench.names, lambda: bench.ask("d", "r")[1],
                     lambda: verdict(CROWD, GOOD)[1], lambda: moves(CROWD, GOOD, first_state(CROWD, GOOD)),
                     lambda: movers(CROWD, GOOD, end_of(CROWD, GOOD, [("come", "c")])), lambda: edits(CROWD),
                     lambda: needless_steps(CROWD, GOOD), lambda: cheapest(CROWD, [HALT])[2]):
            told = call()
            known = list(told)
            told.append(None)
            self.assertEqual(call(), known)

    def test_equal_calls_have_equal_results(self):
        for device, row in small(203, 40):
            other, again = read_device(write_device(device)), Row(*row.steps())
            for call in (verdict, fewest_users, short_paper, waiting_run, ending_of, lambda one, two: Table(one, two).states(),
                         lambda one, two: edits(one), lambda one, two: [run for run in runs(one, two, 2)]):
                self.assertEqual(repr(call(device, row)), repr(call(other, again)))
                self.assertEqual(repr(call(device, row)), repr(call(device, row)))

    def test_the_order_of_dict_keys(self):
        works = {"v": (("start", "w"),), "w": (USE,), "x": (("cancel", "v"),)}
        crowds = {"c": ("d", (("start", "w"),)), "b": ("e", (USE,))}
        told = set()
        for ordered in itertools.permutations(works):
            for other in itertools.permutations(crowds):
                device = Device({name: works[name] for name in ordered}, None, {name: crowds[name] for name in other}, armed=ordered)
                told.add(repr((write_device(device), verdict(device, Row(("close", "d"))), edits(device))))
        self.assertEqual(len(told), 1)

    def test_no_object_equals_one_of_another_class(self):
        things = [Body((USE,)), Work("w", (USE,)), Guest("w", "d", (USE,)), Crowd("w", "d", (USE,)), Device({"w": (USE,)}), Row(),
                  Machine(SELF, SETTLE), Table(SELF, SETTLE), CountedTable(SELF, SETTLE, 0), Keeper(CROWD, GOOD), Bench(), Console(),
                  (), [], (USE,), "w", None, 0, {}]
        for one, other in itertools.permutations(things, 2):
            self.assertIs(one == other, False, (one, other))
            self.assertIs(one != other, True, (one, other))
        for one in things:
            self.assertIs(one == one, True)

    def test_no_state_changes_if_an_error_is_raised(self):
        keeper, bench, console = Keeper(CROWD, GOOD), Bench(), Console()
        machine = play(CROWD, GOOD, [("come", "c")])
        for call in (lambda: keeper.take(Row()), lambda: keeper.change(None), keeper.undo, lambda: keeper.together([GOOD, None]),
                     lambda: machine(("go", "w", 0)), lambda: bench.keep("d", None), lambda: bench.bind(0), lambda: console.run("row r x")):
            with self.assertRaises(Exception):
                call()
        self.assertEqual((keeper.row, len(keeper), machine.made(), len(bench), bench.bound, console.run("names")),
                         (GOOD, 0, [("come", "c")], 0, 6000, "-"))


class TestPoint3(unittest.TestCase):
    def test_a_a_quiet_device_is_never_touched(self):
        seen = 0
        for device, row in small(211, 200):
            for state in slow_table(device, row):
                if is_quiet(device, row, state):
                    seen += 1
                    self.assertIn(moves(device, row, state), ([("step",)], []))
                    if moves(device, row, state):
                        self.assertTrue(is_quiet(device, row, after(device, row, state, ("step",))))
        self.assertGreater(seen, 100)

    def test_b_runs_of_users_are_runs_of_places(self):
        source = random.Random(212)
        for device, row in small(213, 60):
            state = slow_counted_first(device)
            machine = Machine(device, row)
            for _ in range(12):
                possible = slow_counted_moves(device, row, None, state)
                if not possible:
                    break
                move, state = source.choice(possible)
                before = machine.state()
                machine(move)
                # One user's move is a move of places, with or without others who stay.
                self.assertIn(machine.state(), [ahead for one, ahead in slow_moves(device, row, before) if one[:4] == move])

    def test_b_runs_of_places_are_runs_of_users(self):
        source = random.Random(214)
        for device, row in small(215, 60):
            run, state = [], first_state(device, row)
            for _ in range(8):
                possible = slow_moves(device, row, state)
                if possible:
                    move, state = source.choice(possible)
                    run.append(move)
            self.assertEqual(play(device, row, counted(device, row, run)).state(), state)

    def test_b_the_fewest_users(self):
        for device, row in small(216, 120):
            try:
                told = fewest_users(device, row)
            except LimitExceeded:
                continue
            self.assertEqual(told is None, Table(device, row).loud() is None)
            if told is None:
                continue
            number, run = told
            machine = play(device, row, run)
            self.assertTrue(machine.freed)
            self.assertLessEqual(machine.most, number)
            if number > 0:
                self.assertIs(is_closed_for(device, row, number - 1, CountedTable(device, row, number - 1).states()), True)

    def test_c_a_row_is_loud_or_has_a_closed_table(self):
        for device, row in small(217, 120):
            table = Table(device, row)
            run = table.loud()
            self.assertIs(is_closed(device, row, table.states()), run is None)
            if run is not None:
                self.assertIs(is_run(device, row, run), True)
                self.assertIs(is_quiet(device, row, end_of(device, row, run[:-1])), False)
                shorter = [one for one in runs(device, row, min(len(run) - 1, 3)) if is_verdict(device, row, ("loud", one))]
                self.assertEqual(shorter, [])

    def test_c_a_row_waits_or_has_an_ending_paper(self):
        for device, row in small(218, 150):
            run, paper = waiting_run(device, row), ending_of(device, row)
            self.assertEqual(run is None, paper is not None)
            if run is None:
                self.assertIs(is_ending(device, row, Table(device, row).states(), paper), True)
            else:
                self.assertIs(is_waiting(device, row, run), True)

    def test_d_no_paper_shows_what_is_not_so(self):
        for device, row in small(219, 120):
            word = slow_word(device, row)
            table = Table(device, row)
            self.assertIs(is_closed(device, row, table.states()), table.loud() is None)
            others = [("loud", [("step",)] * (len(row) + 1)), ("waits", [], []), ("right", table.states(), []),
                      ("right", table.states(), [([state], None, []) for state in table.waiting()])]
            for value in others:
                if is_verdict(device, row, value):
                    self.assertTrue(value[0] == word or (word, value[0]) == ("loud", "waits"))

    def test_e_who_waits_at_a_step_waits_whatever_is_behind(self):
        seen = 0
        for device, row in small(220, 200, kinds=(patient_row,)):
            told = waiting_run(device, row)
            if told is None:
                continue
            done = end_of(device, row, told[0])[4]
            for step in device.works():
                try:
                    other = Row(*row.steps()[:done + 1], ("bar", step), ("cancel", step))
                except InvalidStep:
                    continue
                seen += 1
                self.assertIs(is_waiting(device, other, told), True)
                self.assertIsNotNone(waiting_run(device, other, limit=50000))
        self.assertGreater(seen, 30)

    def test_f_a_row_with_a_short_paper_is_right(self):
        seen = 0
        for device, row in small(221, 400, kinds=(careful_row,)):
            if short_paper(device, row) is not None:
                seen += 1
                self.assertEqual(slow_word(device, row), "right")
        self.assertGreater(seen, 30)

    def test_g_the_cheapest_rows(self):
        source = random.Random(222)
        seen = 0
        while seen < 10:
            device = drawn_device(source, 1)
            stock = sorted(set(careful_row(source, device).steps()))[:4]
            if not stock or any(slow_word(device, row, 40) is None for row in rows_of(stock, 3)):
                continue
            seen += 1
            cost, rows, floor = cheapest(device, stock, longest=3)
            right = [row for row in rows_of(stock, 3) if slow_word(device, row, 40) == "right"]
            self.assertEqual(cost, min(map(price, right), default=None))
            self.assertEqual(rows, [row for row in right if price(row) == cost])
            for row in rows_of(stock, 3):
                if cost is None or price(row) < cost:
                    self.assertTrue(any(
                        is_verdict(device, row, ("loud", run)) if around is None else
                        tuple(row.steps()[:len(steps)]) == steps and is_waiting(device, row, (run, around))
                        for steps, run, around in floor))

    def test_h_what_can_go_alone(self):
        for device, row in small(223, 200, 40, (careful_row,)):
            if slow_word(device, row) != "right":
                continue
            for edit in edits(device):
                other = edited(device, edit)
                try:
                    fits(other, row)
                    word = slow_word(other, row, 300)
                except UnknownName:
                    word = "does not fit"
                if word is not None:
                    self.assertEqual(edit in needless(device, row), word == "right")
            for index in range(len(row)):
                self.assertEqual(index in needless_steps(device, row), slow_word(device, row.without(index), 300) == "right")

    def test_i_merged_rows(self):
        source = random.Random(224)
        seen = {True: 0, False: 0}
        while min(seen.values()) < 15:
            one, other = drawn_device(source, 1), renamed_device(drawn_device(source, 1))
            rows = [source.choice(KINDS)(source, one), careful_row(source, other)]
            words = [slow_word(device, row, 25) for device, row in zip((one, other), rows)]
            if None in words or len(rows[0]) + len(rows[1]) > 8:
                continue
            try:
                device = joined(one, other)
            except InvalidDevice:
                continue
            for row in list(merges(*rows))[:3]:
                seen[words == ["right", "right"]] += 1
                self.assertIs(is_right(device, row), words == ["right", "right"])

    def test_j_texts_and_keepers(self):
        for device, row in small(225, 150, 40, (careful_row,)):
            self.assertEqual((read_device(write_device(device)), read_row(write_row(row))), (device, row))
            if slow_word(device, row) != "right":
                with self.assertRaises(NotRight):
                    Keeper(device, row)
                continue
            keeper = Keeper(device, row)
            for edit in edits(device):
                keeper.within(lambda given: given.attempt(lambda one: one.take(Row())))
                try:
                    keeper.change(edit)
                except (NotRight, InvalidEdit, LookupError):
                    pass
                self.assertEqual((keeper.answer, verdict(keeper.device, keeper.row)[0]), ("right", "right"))


class TestPoint4And5(unittest.TestCase):
    def test_items_places_and_locks(self):
        body = Body((("take", "l"), ("test", "f", (USE, ("choose", (), (USE,))), ()), ("give", "l"), ("start", "w")))
        self.assertEqual(body.size, 7)
        self.assertEqual([body.nexts(place) for place in range(7)], [(1,), (2, 5), (3,), (5, 4), (5,), (6,), (7,)])
        self.assertEqual([body.held(place) for place in range(8)], [()] + [("l",)] * 5 + [()] * 2)
        for items in ((("take", "l"),), (("give", "l"),), (("take", "l"), ("take", "k"), ("give", "l"), ("give", "k")),
                      (("test", "f", (("take", "l"),), ()), ("give", "l")), (USE,) * 9, ()):
            self.assertIs(is_body(items), False)


class TestPoint6And7(unittest.TestCase):
    def test_numbers(self):
        works = {name: (USE,) for name in "abcd"}
        gated = {name: ("d", (USE,)) for name in "xy"}
        self.assertEqual(len(Device(works, gated, {"v": ("d", (USE,)), "w": ("d", (USE,))})), 8)
        for told in (({}, None, None), ({**works, "e": (USE,)}, None, None), (works, {**gated, "z": ("d", (USE,))}, None),
                     (works, None, {**gated, "z": ("d", (USE,))}), (works, gated, gated)):
            self.assertRaises(InvalidDevice, Device, *told)
        # Gates, flags and locks may be called like threads, or like one another.
        same = Device({"w": (("set", "w"), ("take", "w"), ("give", "w"))}, {"g": ("w", (USE,))}, {"c": ("w", (USE,))})
        self.assertEqual((same.flags(), same.locks(), same.gates()), (["w"], ["w"], ["w"]))
        row = Row(("close", "w"), ("drain", "w"), ("take", "w"), ("set", "w"), ("give", "w"), ("halt", "w"))
        self.assertEqual(verdict(same, row)[0], "right")
        self.assertEqual(len(Row(*[HALT] * 8)), 8)
        self.assertRaises(InvalidStep, Row, *[HALT] * 9)


class TestPoint8And9And10(unittest.TestCase):
    def test_states_moves_and_quiet_ones(self):
        for device, row in small(231, 60):
            for state in slow_table(device, row):
                told = [(move, after(device, row, state, move)) for move in moves(device, row, state)]
                self.assertEqual(told, slow_moves(device, row, state))
                self.assertTrue(all(is_state(device, row, ahead) for _, ahead in told))
                self.assertLessEqual(set(held_by(device, row, state)), set(device.locks()))

    def test_a_barred_work_is_not_armed(self):
        row = Row(BAR, HALT)
        run = [("begin", "w"), ("step",), ("go", "w", 0)]
        self.assertEqual(end_of(SELF, row, run)[0], ((False, None),))
        self.assertEqual(end_of(SELF, row, run[:1] + run[2:])[0], ((True, None),))
        self.assertEqual(verdict(SELF, row)[0], "right")


class TestPoint11(unittest.TestCase):
    def test_counted_runs(self):
        machine = play(CROWD, GOOD, [("come", "c"), ("come", "c"), ("pass", "c", 0, 0)])
        self.assertEqual((machine.counts("c"), machine.inside, machine.most), ((1, 1), 2, 2))
        self.assertEqual(len({state[3] for state in CountedTable(CROWD, GOOD, 2).states()}), 6)


class TestPoint12And13(unittest.TestCase):
    def test_a_finite_crowd_does_not_start_a_work_for_ever(self):
        row = Row(CLOSE, ("settle", "w"), DRAIN)
        self.assertIsNone(waiting_run(CROWD, row))
        self.assertIs(is_ending(CROWD, row, Table(CROWD, row).states(), ending_of(CROWD, row)), True)
        self.assertIsNotNone(waiting_run(CROWD, Row(("settle", "w"), CLOSE)))

    def test_dead_stands(self):
        run, around = waiting_run(CROSSED, CROSSED_ROW)
        self.assertEqual(around, [])
        self.assertIs(is_dead(CROSSED, CROSSED_ROW, end_of(CROSSED, CROSSED_ROW, run)), True)

    def test_parts(self):
        states = Table(SELF, SETTLE).waiting()
        self.assertEqual([sorted(map(repr, part)) for part in parts(SELF, SETTLE, states, [])], [sorted(map(repr, states))])

    def test_unlike_rows(self):
        self.assertIsNone(unlike(CROWD, GOOD, GOOD))
        self.assertEqual(unlike(CROWD, GOOD, Row(CLOSE))[:2], ("free", 1))


class TestPoint14(unittest.TestCase):
    def test_short_papers(self):
        self.assertEqual(short_paper(CROWD, GOOD), ((), (2,)))
        for index in range(3):
            self.assertIsNone(short_paper(CROWD, GOOD.without(index)))


class TestPoint15And16(unittest.TestCase):
    def test_stocks_and_edits(self):
        self.assertEqual([row.steps() for row in rows_of([HALT, CLOSE], 2)], [[], [HALT], [CLOSE], [HALT, CLOSE], [CLOSE, HALT]])
        self.assertEqual((price(GOOD), price(GOOD, wait=0, plain=5)), (7, 5))
        self.assertEqual(edits(DEVICE)[-1], ("unlock", "l"))
        self.assertEqual(edited(DEVICE, ("unlock", "l")).locks(), [])


class TestPoint17(unittest.TestCase):
    def test_texts(self):
        self.assertEqual(write_body((("test", "f", (USE, ("start", "v")), ()),)), "test f ( use ; start v ) ( )")
        self.assertEqual(read_body("test f ( use ; start v ) ( )"), (("test", "f", (USE, ("start", "v")), ()),))
        self.assertEqual(write_row(Row()), "")
        self.assertEqual(write_row(GOOD), "close d ; drain d ; halt w")
        self.assertEqual(write_device(CROWD), "work w use\ncrowd c d use ; start w")

    def test_a_device_of_a_text_is_as_the_other(self):
        console = Console()
        for device, row in small(241, 80):
            console.run("device d " + " / ".join(write_device(device).split("\n")))
            console.run(("row r " + write_row(row)).strip())
            bench = console.bench
            self.assertEqual((bench["d"], bench["r"]), (device, row))
            self.assertEqual(bench.ask("d", "r"), verdict(device, row))
            self.assertEqual(console.run("ask d r").split(" ")[0], verdict(device, row)[0])
            self.assertEqual(short_paper(bench["d"], bench["r"]), short_paper(device, row))
            self.assertEqual(edits(bench["d"]), edits(device))


if __name__ == "__main__":
    unittest.main()

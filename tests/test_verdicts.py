import unittest

from draws import DEVICE, USE, careful_row, draws, drawn_row, patient_row
from slow import slow_first, slow_is_quiet, slow_loud_length, slow_table
from slow_waits import Slow
from takendown.devices import Device
from takendown.endings import ending_of, is_ending
from takendown.errors import InvalidNumber, LimitExceeded, UnknownName
from takendown.moves import end_of, is_run
from takendown.rows import Row
from takendown.tables import Table, is_closed
from takendown.verdicts import is_right, is_verdict, unlike, verdict
from takendown.waits import is_waiting, waiting_run
from test_tables import NO_LIMITS, WRONG_NAMES
from test_waits import CROSSED, CROSSED_ROW, CROWD, KINDS, SELF, SETTLE
from values import EqualToAll, strange_values

OFF = (False, None)
GOOD = Row(("close", "d"), ("drain", "d"), ("halt", "w"))
# This row is loud, and it waits as well.
BOTH = Row(("drain", "d"))
EXAMPLES = [("right", CROWD, GOOD), ("right", Device({"w": (USE,)}), Row()), ("right", SELF, Row(*Row.shut("w"))),
            ("loud", CROWD, Row()), ("loud", CROWD, BOTH), ("loud", SELF, Row(("cancel", "w"))),
            ("waits", SELF, SETTLE), ("waits", CROSSED, CROSSED_ROW),
            ("right", CROWD, Row(("close", "d"), ("bar", "w"), ("settle", "w"), ("drain", "d"))),
            ("waits", CROWD, Row(("bar", "w"), ("drain", "d"), ("close", "d"), ("halt", "w"), ("drain", "d")))]


class TestVerdict(unittest.TestCase):
    def check(self, device, row, told, word):
        self.assertIsInstance(told, tuple)
        self.assertEqual(told[0], word)
        self.assertIs(is_verdict(device, row, told), True)
        self.assertIs(is_right(device, row), word == "right")
        if word == "loud":
            self.assertEqual(told, ("loud", Table(device, row).loud()))
        elif word == "waits":
            self.assertEqual(told, ("waits", *waiting_run(device, row)))
        else:
            self.assertEqual(len(told), 3)
            self.assertEqual(sorted(map(repr, told[1])), sorted(map(repr, Table(device, row).states())))
            self.assertEqual(told[2], ending_of(device, row))

    def test_examples(self):
        for word, device, row in EXAMPLES:
            self.check(device, row, verdict(device, row), word)
            self.assertEqual(verdict(limit=6000, row=row, device=device), verdict(device, row))

    def test_new_lists(self):
        told = verdict(CROWD, GOOD)
        told[1].clear()
        told[2].clear()
        self.assertIs(is_verdict(CROWD, GOOD, verdict(CROWD, GOOD)), True)

    def test_the_limit(self):
        for _, device, row in EXAMPLES:
            many = len(Table(device, row))
            for call in (verdict, is_right):
                self.assertEqual(call(device, row, limit=many), call(device, row))
                if many > 1:
                    with self.assertRaises(LimitExceeded) as caught:
                        call(device, row, limit=many - 1)
                    self.assertEqual(caught.exception.limit, many - 1)
        for value in NO_LIMITS:
            for call in (verdict, is_right):
                with self.assertRaises(InvalidNumber) as caught:
                    call(SELF, SETTLE, limit=value)
                self.assertIs(caught.exception.value, value)

    def test_unknown_names_first(self):
        for call in (lambda: verdict(DEVICE, WRONG_NAMES, limit=0), lambda: is_right(DEVICE, WRONG_NAMES, limit=0),
                     lambda: is_verdict(DEVICE, WRONG_NAMES, None)):
            with self.assertRaises(UnknownName) as caught:
                call()
            self.assertEqual(caught.exception.name, "g")

    def test_draws(self):
        found = {}
        for device, row in draws(91, 400, KINDS):
            depths = slow_table(device, row, 60)
            if depths is None:
                continue
            loud = slow_loud_length(device, row, depths) is not None
            waits = Slow(device, row).waits(depths) is not None
            word = "loud" if loud else "waits" if waits else "right"
            found[word] = found.get(word, 0) + 1
            self.check(device, row, verdict(device, row), word)
        self.assertGreater(min(found.values()), 10, found)


class TestIsVerdict(unittest.TestCase):
    def check(self, device, row, value, right=False):
        self.assertIs(is_verdict(device, row, value), right)

    def test_loud(self):
        run = Table(CROWD, Row()).loud()
        longer = [("come", "c"), ("pass", "c", 0, 0, True), ("pass", "c", 1, 0, False), ("step",)]
        self.check(CROWD, Row(), ("loud", run), True)
        self.check(CROWD, Row(), ("loud", longer), True)
        is_verdict(value=("loud", run), row=Row(), device=CROWD)
        self.check(CROWD, BOTH, ("loud", Table(CROWD, BOTH).loud()), True)
        for value in [("loud", []), ("loud", longer[:-1]), ("loud", longer + [("come", "c")]), ("loud", tuple(longer)),
                      ("loud", longer + [("step",)]), ["loud", longer], ("loud", longer, []), ("loud",), longer,
                      ("loud", longer[1:]), ("loud", [None]), ("loud", None), ("Loud", longer), ("right", longer),
                      ("waits", longer), ("waits", longer, []), ("right", longer, [])]:
            self.check(CROWD, Row(), value)
        for word in (EqualToAll(), "Loud", None, b"loud"):
            self.check(CROWD, Row(), (word, run))
        quiet = [("step",)] * 4
        self.assertIs(is_run(CROWD, GOOD, quiet), True)
        self.check(CROWD, GOOD, ("loud", quiet))
        self.check(CROWD, Row(("close", "d")), ("loud", [("come", "c"), ("step",)]))
        self.check(CROWD, Row(("close", "d")), ("loud", [("come", "c"), ("step",), ("step",)]), True)

    def test_waits(self):
        for device, row in ((SELF, SETTLE), (CROSSED, CROSSED_ROW), (CROWD, BOTH)):
            run, around = waiting_run(device, row)
            self.check(device, row, ("waits", run, around), True)
            for value in [("waits", (run, around)), ("waits", run), ["waits", run, around], ("waits", tuple(run), around),
                          ("waits", run, tuple(around)), ("waits", run + [("step",)], around), ("right", run, around),
                          ("waits", run, around, []), ("loud", run, around), (None, run, around), ("waits",),
                          ("waits", around + [None], run), ("waits", run, around + [("step",)])]:
                self.check(device, row, value)

    def test_right(self):
        word, states, paper = verdict(CROWD, GOOD)
        self.check(CROWD, GOOD, (word, states[::-1], paper), True)
        for value in [(word, states[1:], paper), (word, tuple(states), paper), (word, states, paper[1:]),
                      (word, states, tuple(paper)), (word, states, None), [word, states, paper], (word, states),
                      ("wrong", states, paper), (None, states, paper), (EqualToAll(), states, paper),
                      (word, states, paper, []), ("waits", states, paper), ("loud", states), (word, states + [None], paper),
                      (word, None, paper), (word, [], []), (word, states + states[:1], paper), (word, paper, states)]:
            self.check(CROWD, GOOD, value)
        loud = Row(("close", "d"), ("drain", "d"))
        self.check(CROWD, loud, (word, Table(CROWD, loud).states(), ending_of(CROWD, loud)))
        for device, row in ((SELF, SETTLE), (CROSSED, CROSSED_ROW)):
            states = Table(device, row).states()
            self.check(device, row, (word, states, []))
            self.check(device, row, (word, states, [([state], None, []) for state in Table(device, row).waiting()]))

    def test_a_dead_stand_that_no_run_leads_to(self):
        off, held = OFF, (("take", "k"), ("take", "l"), ("give", "l"), ("give", "k"))
        device = Device({"v": held, "w": CROSSED["w"].code})
        row = Row(("halt", "v"), ("halt", "w"))
        self.assertIs(is_right(device, row), True)
        states = Table(device, row).states()
        self.check(device, row, ("right", states, []), True)
        armed = Device({"v": held, "w": CROSSED["w"].code}, armed=("v", "w"))
        more = Table(armed, row).states()
        more = more + [state for state in states if state not in more]
        self.assertIs(is_closed(device, row, more), True)
        stuck = [state for state in more if Slow(device, row).is_stuck(state)]
        number = {state: at for at, state in enumerate(stuck)}
        ends = sorted(stuck, key=lambda one: -longest(Slow(device, row), one, number))
        self.assertIs(Slow(device, row).is_ending(stuck, [([state], None, []) for state in ends]), True)
        self.check(device, row, ("right", more, [([state], None, []) for state in ends]))
        self.assertEqual(off, states[0][0][0])

    def test_any_value(self):
        for value in strange_values():
            for device, row in ((CROWD, GOOD), (SELF, SETTLE), (CROWD, Row())):
                self.check(device, row, value)
                for word in ("loud", "waits", "right"):
                    self.check(device, row, (word, value))
                    self.check(device, row, (word, value, []))
                    self.check(device, row, (word, [], value), False)
                self.check(device, row, (value, [], []))
                self.check(device, row, (value, []))

    def test_draws(self):
        for device, row in draws(92, 200, KINDS):
            depths = slow_table(device, row, 60)
            if depths is None:
                continue
            table = Table(device, row)
            self.check(device, row, ("loud", table.loud()), table.loud() is not None)
            waiting = waiting_run(device, row) or ([], [])
            self.check(device, row, ("waits", *waiting), is_waiting(device, row, waiting))
            right = table.loud() is None and is_ending(device, row, table.states(), ending_of(device, row))
            self.check(device, row, ("right", table.states(), ending_of(device, row)), right)


def longest(slow, state, inside):
    """Return the number of moves of a longest way within a set of states without rounds."""
    return max([1 + longest(slow, ahead, inside) for _, ahead in slow.moves(state) if ahead in inside], default=0)


def slow_ends(device, row, depths):
    """Return the set of the states with all steps done, without their number, each with whether it is quiet."""
    return {(state[:4], slow_is_quiet(device, row, state)) for state in depths if state[4] == len(row)}


class TestUnlike(unittest.TestCase):
    def check(self, device, row, other, told):
        """Check what is told of two rows against a slow search; return the word."""
        tables = [slow_table(device, one) for one in (row, other)]
        ends = [slow_ends(device, one, depths) for one, depths in zip((row, other), tables)]
        waits = [waiting_run(device, one) for one in (row, other)]
        if told is None:
            self.assertEqual(ends[0], ends[1])
            self.assertEqual(waits[0] is None, waits[1] is None)
            return None
        word, at, paper = told
        self.assertIsInstance(told, tuple)
        self.assertIs(type(at), int)
        if word == "free":
            one = (row, other)[at]
            end = end_of(device, one, paper)
            self.assertEqual(end[4], len(one))
            self.assertNotIn((end[:4], slow_is_quiet(device, one, end)), ends[1 - at])
        else:
            self.assertEqual(word, "waits")
            self.assertEqual(ends[0], ends[1])
            self.assertIsNone(waits[1 - at])
            self.assertIs(is_waiting(device, (row, other)[at], paper), True)
        return word

    def test_alike(self):
        for row, other in ((GOOD, GOOD), (Row(), Row()), (GOOD, Row(("halt", "w")) + GOOD),
                           (Row.shut("w"), Row(("bar", "w")) + Row.shut("w"))):
            self.assertIsNone(unlike(CROWD, row, other))
            self.check(CROWD, row, other, None)

    def test_other_ends(self):
        told = unlike(CROWD, Row(), Row(("bar", "w"), ("halt", "w")))
        self.assertEqual(told[:2], ("free", 0))
        self.check(CROWD, Row(), Row.shut("w"), told)
        told = unlike(CROWD, Row.shut("w"), Row())
        self.assertEqual(told[:2], ("free", 1))
        self.check(CROWD, Row.shut("w"), Row(), told)
        told = unlike(other=Row(("settle", "w")), row=Row(("set", "f")),
                      device=Device({"w": (("test", "f", (), ()),)}))
        self.assertEqual(told[:2], ("free", 0))

    def test_one_part_of_the_states(self):
        # The gate e stays open, so that no end is quiet.
        device = Device({"w": (("test", "f", (), ()),), "v": (USE,)}, {"g": ("d", (USE,)), "h": ("e", (USE,))},
                        {"c": ("b", (USE,))}, armed=("v",))
        for step in (("drain", "d"), ("drain", "b"), ("set", "f"), ("settle", "v"), ("cancel", "v"), ("bar", "v")):
            row = Row(("close", "d"), ("close", "b"))
            told = unlike(device, row, row + (step,))
            self.assertEqual(told is None, step[0] == "bar")
            self.check(device, row, row + (step,), told)

    def test_only_whether_it_is_quiet(self):
        device = Device({"w": (USE,)}, {"g": ("d", (USE,))})
        told = unlike(device, Row(("close", "d"), ("drain", "d")), Row(("drain", "d")))
        self.assertEqual(told[:2], ("free", 0))
        device = Device({"w": (USE,)}, {"g": ("d", (("take", "l"), ("give", "l")))})
        row, other = Row(("close", "d")), Row(("halt", "w"))
        told = unlike(device, row, other)
        self.assertEqual((told, self.check(device, row, other, told)), (("free", 0, [("step",)]), "free"))

    def test_only_one_waits(self):
        body = (("choose", (("start", "w"),), ()),)
        device = Device({"w": body, "v": (USE,)}, armed=("w",))
        row, other = Row(("settle", "w"), ("halt", "v")), Row(("bar", "w"), ("settle", "w"), ("halt", "v"))
        told = unlike(device, row, other)
        self.assertEqual((told[:2], self.check(device, row, other, told)), (("waits", 0), "waits"))
        told = unlike(device, other, row)
        self.assertEqual((told[:2], self.check(device, other, row, told)), (("waits", 1), "waits"))
        self.assertEqual(told[2], waiting_run(device, row))

    def test_both_wait(self):
        self.assertIsNone(unlike(SELF, SETTLE, Row(("settle", "w"), ("halt", "w"))))

    def test_errors(self):
        good, bad, worse = Row(), WRONG_NAMES, Row(("halt", "x"))
        for row, other, name in ((bad, worse, "g"), (good, worse, "x"), (worse, bad, "x"), (bad, good, "g")):
            for limit in (0, 1, 6000):
                with self.assertRaises(UnknownName) as caught:
                    unlike(DEVICE, row, other, limit=limit)
                self.assertEqual(caught.exception.name, name)
        for value in NO_LIMITS:
            with self.assertRaises(InvalidNumber) as caught:
                unlike(SELF, SETTLE, Row(), limit=value)
            self.assertIs(caught.exception.value, value)
        many = max(len(Table(CROWD, row)) for row in (GOOD, Row()))
        for row, other in ((GOOD, Row()), (Row(), GOOD)):
            self.assertEqual(unlike(CROWD, row, other, limit=many), unlike(CROWD, row, other))
            with self.assertRaises(LimitExceeded) as caught:
                unlike(CROWD, row, other, limit=many - 1)
            self.assertEqual(caught.exception.limit, many - 1)

    def test_draws(self):
        words = {}
        pairs = list(draws(93, 250, (careful_row, patient_row, drawn_row)))
        for device, row in pairs:
            others = [Row(*row.steps()[1:])] if ("take", ) not in [step[:1] for step in row] else []
            others += [Row(*row.steps()[:-1], ("cancel", work)) for work in device.works()
                       if len(row) > 0 and row[len(row) - 1][0] != "give" and row[0][0] != "take"]
            for other in others[:2]:
                if any(slow_table(device, one, 60) is None for one in (row, other)):
                    continue
                told = unlike(device, row, other)
                word = self.check(device, row, other, told)
                words[word] = words.get(word, 0) + 1
        self.assertGreater(min(words.get(word, 0) for word in (None, "free")), 20, words)


class TestGuarantee(unittest.TestCase):
    def test_the_free_of_a_right_row_is_the_last_move(self):
        for device, row in draws(94, 150, (careful_row,)):
            if slow_table(device, row, 60) is None or not is_right(device, row):
                continue
            slow = Slow(device, row)
            for state in slow_table(device, row):
                if state[4] == len(row):
                    self.assertEqual([move for move, _ in slow.moves(state)], [("step",)])
            self.assertIn(slow_first(device), Table(device, row))


if __name__ == "__main__":
    unittest.main()

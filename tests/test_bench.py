import unittest

from draws import DEVICE, ROW, USE, draws
from takendown.bench import Bench
from takendown.devices import Device
from takendown.errors import InvalidDevice, InvalidNumber, LimitExceeded, UnknownName
from takendown.rows import Row
from takendown.tables import Table
from takendown.verdicts import verdict
from test_tables import NO_LIMITS, WRONG_NAMES
from test_waits import CROWD, SELF, SETTLE
from values import EqualToAll, namesake, strange_values

SMALL = Device({"w": (USE,)})
HALT = Row(("halt", "w"))
# No names, though some of them are nearly
NO_NAMES = [value for value in strange_values()] + ["", "Bench", "ninechars", "a b", "a1", "d ", ("d",), ["d"], EqualToAll()]


def told(bench):
    return bench.names(), [bench[name] for name in bench.names()], len(bench), bench.bound


class BenchTest(unittest.TestCase):
    def setUp(self):
        self.bench = Bench()
        self.bench["d"] = SMALL
        self.bench["r"] = HALT

    def refused(self, kind, call, **attributes):
        before = told(self.bench)
        with self.assertRaises(kind) as caught:
            call()
        for name, value in attributes.items():
            self.assertIs(getattr(caught.exception, name), value)
        self.assertEqual(told(self.bench), before)

    def assign(self, name, thing):
        self.bench[name] = thing


class TestThings(BenchTest):
    def test_empty(self):
        bench = Bench()
        self.assertEqual((len(bench), bench.names(), "d" in bench, bench.bound), (0, [], False, 6000))

    def test_kept(self):
        self.assertIs(self.bench["d"], SMALL)
        self.assertIs(self.bench["r"], HALT)
        self.assertEqual((len(self.bench), self.bench.names()), (2, ["d", "r"]))
        self.assertIsNone(self.bench.keep("a", HALT))
        self.bench.keep(thing=SMALL, name="zzzzzzzz")
        self.assertEqual(self.bench.names(), ["a", "d", "r", "zzzzzzzz"])
        self.assertEqual((self.bench["a"], self.bench["zzzzzzzz"]), (HALT, SMALL))

    def test_in_the_place_of_an_earlier_thing(self):
        for thing in (CROWD, SETTLE, CROWD):
            self.bench["d"] = thing
            self.assertIs(self.bench["d"], thing)
            self.assertEqual((len(self.bench), self.bench.names()), (2, ["d", "r"]))
            self.bench.keep("r", thing)
            self.assertIs(self.bench["r"], thing)

    def test_in(self):
        self.assertIs("d" in self.bench, True)
        self.assertIs("x" in self.bench, False)
        for value in NO_NAMES + [SMALL, HALT]:
            self.assertIs(value in self.bench, False)

    def test_drop(self):
        self.assertIsNone(self.bench.drop("d"))
        self.assertEqual((len(self.bench), self.bench.names(), "d" in self.bench), (1, ["r"], False))
        self.refused(UnknownName, lambda: self.bench.drop("d"), name="d")
        self.bench.drop(name="r")
        self.assertEqual(len(self.bench), 0)
        self.bench["d"] = HALT
        self.assertEqual(self.bench["d"], HALT)

    def test_nothing_kept(self):
        for value in NO_NAMES + ["x", "dd"]:
            self.refused(UnknownName, lambda: self.bench[value], name=value)
            self.refused(UnknownName, lambda: self.bench.drop(value), name=value)

    def test_new_lists(self):
        self.bench.names().clear()
        self.assertEqual(self.bench.names(), ["d", "r"])

    def test_no_names(self):
        for value in NO_NAMES:
            for thing in (SMALL, None):
                self.refused(UnknownName, lambda: self.assign(value, thing), name=value)
                self.refused(UnknownName, lambda: self.bench.keep(value, thing), name=value)

    def test_no_things(self):
        for thing in strange_values() + [SMALL["w"], namesake(SMALL), (("halt", "w"),), ("halt", "w"), Device, Row]:
            for name in ("d", "x"):
                for call in (lambda: self.assign(name, thing), lambda: self.bench.keep(name, thing)):
                    self.refused(InvalidDevice, call, name=name)
                    with self.assertRaises(InvalidDevice) as caught:
                        call()
                    self.assertEqual(caught.exception.part, "bench")

    def test_at_most_twelve(self):
        for letter in "abcefghijk":
            self.bench[letter] = HALT if letter < "f" else SMALL
        self.assertEqual(len(self.bench), 12)
        for call in (lambda: self.assign("x", SMALL), lambda: self.bench.keep("x", HALT)):
            self.refused(LimitExceeded, call)
            with self.assertRaises(LimitExceeded) as caught:
                call()
            self.assertEqual(caught.exception.limit, 12)
        self.refused(UnknownName, lambda: self.assign("X", SMALL), name="X")
        self.refused(InvalidDevice, lambda: self.assign("x", None), name="x")
        # A name that is there needs no room.
        self.bench["a"] = CROWD
        self.assertEqual((len(self.bench), self.bench["a"]), (12, CROWD))
        self.bench.drop("a")
        self.bench["x"] = SMALL
        self.assertEqual(len(self.bench), 12)

    def test_benches_do_not_share(self):
        self.assertEqual(len(Bench()), 0)
        self.bench.bound = 7
        self.assertEqual(Bench().bound, 6000)


class TestBound(BenchTest):
    def assign_bound(self, value):
        self.bench.bound = value

    def test_assigned(self):
        for value in (1, 100000, 6000, 77):
            self.bench.bound = value
            self.assertEqual(self.bench.bound, value)
            self.assertIsNone(self.bench.bind(value + 1 if value < 100000 else 5))
            self.assertEqual(self.bench.bound, value + 1 if value < 100000 else 5)
        self.bench.bind(bound=8)
        self.assertEqual(self.bench.bound, 8)

    def test_no_bounds(self):
        for value in NO_LIMITS:
            self.refused(InvalidNumber, lambda: self.assign_bound(value), value=value)
            self.refused(InvalidNumber, lambda: self.bench.bind(value), value=value)


class TestAsk(BenchTest):
    def test_verdicts(self):
        self.assertEqual(self.bench.ask("d", "r"), verdict(SMALL, HALT))
        self.assertEqual(self.bench.ask(other="r", name="d")[0], "right")
        self.bench["self"], self.bench["settle"], self.bench["none"] = SELF, SETTLE, Row()
        self.assertEqual(self.bench.ask("self", "settle"), verdict(SELF, SETTLE))
        self.assertEqual(self.bench.ask("self", "none"), ("loud", [("step",)]))
        before = told(self.bench)
        self.bench.ask("self", "settle")[1].clear()
        self.assertEqual((told(self.bench), self.bench.ask("self", "settle")), (before, verdict(SELF, SETTLE)))

    def test_the_first_of_both(self):
        for name, other, wrong in (("r", "d", "r"), ("x", "y", "x"), ("d", "x", "x"), ("d", "d", "d"), ("r", "r", "r"), ("x", "r", "x"),
                                   ("r", "x", "r")):
            self.refused(UnknownName, lambda: self.bench.ask(name, other), name=wrong)
        for value in NO_NAMES:
            self.refused(UnknownName, lambda: self.bench.ask(value, None), name=value)
            self.refused(UnknownName, lambda: self.bench.ask("d", value), name=value)

    def test_a_row_that_does_not_fit(self):
        self.bench["big"], self.bench["wrong"] = DEVICE, WRONG_NAMES
        self.bench.bound = 1
        self.refused(UnknownName, lambda: self.bench.ask("big", "wrong"))
        with self.assertRaises(UnknownName) as caught:
            self.bench.ask("big", "wrong")
        self.assertEqual(caught.exception.name, "g")

    def test_the_bound_is_the_limit(self):
        self.bench["c"], self.bench["s"] = CROWD, Row(("close", "d"), ("halt", "w"))
        many = len(Table(CROWD, self.bench["s"]))
        self.bench.bound = many
        self.assertEqual(self.bench.ask("c", "s"), verdict(CROWD, self.bench["s"]))
        self.bench.bind(many - 1)
        self.refused(LimitExceeded, lambda: self.bench.ask("c", "s"), limit=many - 1)

    def test_more_than_the_limit_of_others(self):
        device = Device({name: (USE,) * 7 for name in "vwxy"}, armed=("v", "w", "x", "y"))
        self.bench["d"], self.bench["r"] = device, Row(*[("halt", name) for name in "vwxy"])
        self.refused(LimitExceeded, lambda: self.bench.ask("d", "r"))
        self.bench.bound = 8000
        self.assertEqual(self.bench.ask("d", "r")[0], "right")

    def test_draws(self):
        for device, row in draws(171, 60):
            self.bench["d"], self.bench["r"] = device, row
            self.bench.bound = 200
            try:
                told_of = verdict(device, row, limit=200)
            except LimitExceeded:
                self.refused(LimitExceeded, lambda: self.bench.ask("d", "r"))
                continue
            self.assertEqual(self.bench.ask("d", "r"), told_of)

    def test_a_device_and_its_row(self):
        self.bench["device"], self.bench["row"] = DEVICE, ROW
        self.bench.bound = 100
        self.refused(LimitExceeded, lambda: self.bench.ask("device", "row"))


if __name__ == "__main__":
    unittest.main()

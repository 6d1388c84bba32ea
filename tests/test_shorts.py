import itertools
import random
import unittest

from draws import DEVICE, USE, careful_row, draws, drawn_row, patient_row
from reference import laid_out, locks_held
from takendown.devices import Device
from takendown.errors import InvalidNumber, LimitExceeded, UnknownName
from takendown.rows import Row
from takendown.shorts import arrows, is_short, left_alone, lock_order, lock_pairs, short_paper
from takendown.verdicts import is_right
from test_tables import WRONG_NAMES
from values import EqualToAll, strange_values

# v starts w, a crowd starts v, a guest starts w.
CHAIN = Device({"v": (("start", "w"),), "w": (("test", "f", (("start", "w"),), ()),)}, {"g": ("e", (("start", "w"),))},
               {"c": ("d", (USE, ("start", "v")))})
CLOSED = (("close", "d"), ("drain", "d"), ("close", "e"), ("drain", "e"))
PAPER = ((), (4, 6))
CHAIN_ROW = Row(*CLOSED, ("halt", "v"), ("bar", "w"), ("halt", "w"))

NESTED = Device(
    {"v": (("take", "l"), ("take", "k"), ("give", "k"), ("give", "l")), "w": (("take", "m"), ("give", "m"))},
    {"g": ("e", (("take", "k"), ("test", "f", (("take", "m"), ("give", "m")), ()), ("give", "k")))})
NESTED_ROW = Row(("close", "e"), ("drain", "e"), ("halt", "v"), ("halt", "w"))


class Slow:
    """Point 14 a second time, word by word."""

    def __init__(self, device, row):
        self.device, self.row, self.steps = device, row, row.steps()

    def starts(self, thread, work):
        return f"('start', '{work}')" in repr(self.device[thread].code)

    def pairs(self):
        found, held = set(), []
        for word, name in self.steps:
            if word == "take":
                found |= {(lock, name) for lock in held}
                held.append(name)
            elif word == "give":
                held.remove(name)
        for thread in self.device.works() + self.device.guests():
            laid = laid_out(self.device[thread].code)
            for number, (item, _) in enumerate(laid):
                if item[0] == "take":
                    found |= {(lock, item[1]) for lock in locks_held(laid, number)}
        return found

    def shut(self, gate, index):
        return any(self.steps[one] == ("close", gate) and self.steps[two] == ("drain", gate)
                   for two in range(index) for one in range(two))

    def alone(self, ends, index, work):
        ends = dict(zip(self.device.works(), ends))
        works = [ends[name] is not None and ends[name] < index for name in ends
                 if name != work and self.starts(name, work)]
        gates = [self.shut(self.device[name].gate, index) for name in self.device.guests() + self.device.crowds()
                 if self.starts(name, work)]
        return all(works + gates)

    def rules(self, value):
        """Return which of the rules hold of a tuple of all locks and a tuple with an index for each work."""
        locks, ends = value
        works = self.device.works()
        held = [[] for _ in self.steps]
        for index, (word, name) in enumerate(self.steps):
            if word == "take":
                end = self.steps.index(("give", name), index)
                for at in range(index + 1, end + 1):
                    held[at].append(name)
        settles = [(index, name) for index, (word, name) in enumerate(self.steps) if word == "settle"]
        return (
            all(self.shut(gate, len(self.steps)) for gate in self.device.gates()),
            all(("close", name) in self.steps[:index] for index, (word, name) in enumerate(self.steps) if word == "drain"),
            all(self.steps[end] in (("halt", work), ("settle", work)) for work, end in zip(works, ends)),
            all(("bar", work) in self.steps[:end] or self.alone(ends, end, work) for work, end in zip(works, ends)),
            all(("bar", work) in self.steps[:index] or (not self.starts(work, work) and self.alone(ends, index, work))
                for index, work in settles),
            not any(held[index] for index, (word, _) in enumerate(self.steps) if word in ("halt", "settle", "drain")),
            all(locks.index(one) < locks.index(two) for one, two in self.pairs()),
        )

    def values(self):
        """Yield all values that have the form of a short paper."""
        for locks in itertools.permutations(self.device.locks()):
            for ends in itertools.product(range(len(self.steps)), repeat=len(self.device.works())):
                yield locks, ends


class TestArrows(unittest.TestCase):
    def test_small(self):
        self.assertEqual(arrows(CHAIN), [("c", "v"), ("g", "w"), ("v", "w"), ("w", "w")])
        self.assertEqual(arrows(device=Device({"w": (USE, ("cancel", "w"))})), [])
        arrows(CHAIN).clear()
        self.assertEqual(len(arrows(CHAIN)), 4)
        self.assertEqual(arrows(DEVICE), [("b", "v"), ("b", "w"), ("c", "w"), ("w", "v")])

    def test_draws(self):
        for device, row in draws(101, 60):
            told = [(thread, work) for thread in device.threads() for work in device.works()
                    if Slow(device, row).starts(thread, work)]
            self.assertEqual(arrows(device), told)


class TestLocks(unittest.TestCase):
    def test_pairs(self):
        self.assertEqual(lock_pairs(NESTED, NESTED_ROW), [("k", "m"), ("l", "k")])
        row = Row(("take", "m"), ("take", "l"), ("take", "k"), ("give", "k"), ("give", "l"), ("give", "m"))
        self.assertEqual(lock_pairs(NESTED, row), [("k", "m"), ("l", "k"), ("m", "k"), ("m", "l")])
        row = Row(("take", "m"), ("give", "m"), ("take", "l"), ("give", "l"))
        self.assertEqual(lock_pairs(row=row, device=NESTED), [("k", "m"), ("l", "k")])
        lock_pairs(NESTED, row).clear()
        self.assertEqual(len(lock_pairs(NESTED, row)), 2)

    def test_pieces_take_no_second_lock(self):
        device = Device({"w": (USE,)}, crowds={"c": ("d", (("piece", "l", (USE,)), ("piece", "k", (USE,))))})
        self.assertEqual((lock_pairs(device, Row()), lock_order(device, Row())), ([], ("k", "l")))

    def test_order(self):
        self.assertEqual(lock_order(NESTED, NESTED_ROW), ("l", "k", "m"))
        self.assertEqual(lock_order(row=Row(), device=CHAIN), ())
        self.assertIsNone(lock_order(NESTED, Row(("take", "k"), ("take", "l"), ("give", "l"), ("give", "k"))))
        self.assertIsNone(lock_order(NESTED, Row(("take", "m"), ("take", "l"), ("give", "l"), ("give", "m"))))

    def test_draws(self):
        source = random.Random(2)
        orders = {True: 0, False: 0}
        for _ in range(200):
            bodies = [within_one_another(source.sample("klm", source.randint(1, 3))) for _ in range(3)]
            device = Device({"v": bodies[0], "w": bodies[1]}, {"g": ("e", bodies[2])})
            row = Row(*within_one_another(source.sample(device.locks(), source.randint(0, min(2, len(device.locks()))))))
            pairs = Slow(device, row).pairs()
            self.assertEqual(lock_pairs(device, row), sorted(pairs))
            right = [locks for locks in itertools.permutations(device.locks())
                     if all(locks.index(one) < locks.index(two) for one, two in pairs)]
            told = lock_order(device, row)
            self.assertTrue(told in right if right else told is None)
            orders[told is not None] += 1
        self.assertGreater(min(orders.values()), 30)


def within_one_another(locks):
    """Return takes of some locks, and gives of them the other way round."""
    return tuple(("take", lock) for lock in locks) + tuple(("give", lock) for lock in reversed(locks))


class TestShortPaper(unittest.TestCase):
    def test_told(self):
        self.assertEqual(short_paper(CHAIN, CHAIN_ROW), PAPER)
        self.assertEqual(short_paper(row=NESTED_ROW, device=NESTED), (("l", "k", "m"), (2, 3)))
        self.assertIs(is_short(CHAIN, CHAIN_ROW, PAPER), True)
        self.assertIs(is_short(value=PAPER, row=CHAIN_ROW, device=CHAIN), True)

    def test_right_rows_without_a_short_paper(self):
        device = Device({"w": (USE,)})
        self.assertIs(is_right(device, Row()), True)
        self.assertIsNone(short_paper(device, Row()))

    def test_each_rule_broken_alone(self):
        taken = Device({"v": (USE,), "w": (("take", "l"), ("give", "l"))}, {"g": ("e", (USE,))})
        crossed = Device({"v": (("take", "k"), ("take", "l"), ("give", "l"), ("give", "k")),
                          "w": (("take", "l"), ("take", "k"), ("give", "k"), ("give", "l"))}, {"g": ("e", (USE,))})
        ends = (("halt", "v"), ("halt", "w"))
        shut = (("close", "e"), ("drain", "e"))
        cases = [
            # The rule that does not hold, or None, by its number in Slow.rules
            (None, taken, shut + ends, (("l",), (2, 3))),
            (0, taken, ends, (("l",), (0, 1))),
            (0, taken, (("close", "e"),) + ends, (("l",), (1, 2))),
            (1, taken, (("drain", "e"),) + shut + ends, (("l",), (3, 4))),
            (2, taken, shut + ends, (("l",), (2, 0))),
            (2, taken, shut + ends, (("l",), (3, 2))),
            (2, taken, shut + ends + (("bar", "v"),), (("l",), (4, 3))),
            (3, CHAIN, CLOSED + (("halt", "w"), ("halt", "v")), ((), (5, 4))),
            (None, CHAIN, CLOSED + (("halt", "v"), ("halt", "w")), ((), (4, 5))),
            (3, CHAIN, CLOSED[2:] + (("halt", "v"),) + CLOSED[:2] + (("halt", "w"),), ((), (2, 5))),
            (4, CHAIN, CLOSED + (("halt", "v"), ("settle", "w"), ("halt", "w")), ((), (4, 6))),
            (None, CHAIN, CLOSED + (("halt", "v"), ("bar", "w"), ("settle", "w")), ((), (4, 6))),
            (None, CHAIN, CLOSED + (("settle", "v"), ("bar", "w"), ("settle", "w")), ((), (4, 6))),
            (4, CHAIN, (("settle", "v"),) + CLOSED + (("halt", "v"), ("halt", "w")), ((), (5, 6))),
            (5, taken, shut + (("take", "l"), ("halt", "v"), ("give", "l"), ("halt", "w")), (("l",), (3, 5))),
            (5, taken, (("close", "e"), ("take", "l"), ("drain", "e"), ("give", "l")) + ends, (("l",), (4, 5))),
            (5, taken, shut + (("take", "l"), ("settle", "v"), ("give", "l")) + ends, (("l",), (5, 6))),
            (None, taken, shut + (("take", "l"), ("close", "e"), ("give", "l")) + ends, (("l",), (5, 6))),
            (6, crossed, shut + ends, (("k", "l"), (2, 3))),
            (6, NESTED, (("close", "e"), ("drain", "e")) + ends, (("k", "l", "m"), (2, 3))),
            (6, NESTED, (("close", "e"), ("drain", "e")) + ends, (("l", "m", "k"), (2, 3))),
            (None, NESTED, (("close", "e"), ("drain", "e")) + ends, (("l", "k", "m"), (2, 3))),
        ]
        for number, device, steps, value in cases:
            row = Row(*steps)
            rules = Slow(device, row).rules(value)
            self.assertEqual([at for at in range(7) if not rules[at]], [] if number is None else [number], (steps, value))
            self.assertIs(is_short(device, row, value), number is None, (steps, value))

    def test_any_value(self):
        locks, ends = PAPER
        for value in [(locks, list(ends)), (list(locks), ends), [locks, ends], (locks,), (locks, ends, ()), (ends, locks),
                      (locks, ends[:1]), (locks, ends + (4,)), (locks, (4, 7)), (locks, (4, -1)), (locks, (4, None)),
                      (locks, (4, "6")), (("l",), ends), ({}, ends), (locks, (4, 10 ** 59)), (locks, (4, EqualToAll())),
                      (EqualToAll(), ends), (locks, EqualToAll())] + strange_values():
            self.assertIs(is_short(CHAIN, CHAIN_ROW, value), False, value)
        for value in strange_values():
            self.assertIs(is_short(CHAIN, CHAIN_ROW, (value, ends)), value == () and isinstance(value, tuple))
            self.assertIs(is_short(CHAIN, CHAIN_ROW, (locks, value)), False)
            self.assertIs(is_short(CHAIN, CHAIN_ROW, (locks, (4, value))), False)

    def test_bools_in_ends(self):
        device, row = Device({"v": (USE,), "w": (USE,)}), Row(("halt", "v"), ("halt", "w"))
        self.assertIs(is_short(device, row, ((), (0, 1))), True)
        for ends in ((False, 1), (0, True), (False, True), (0, 1.0)):
            self.assertIs(is_short(device, row, ((), ends)), False)

    def test_locks(self):
        ends = (2, 3)
        self.assertIs(is_short(NESTED, NESTED_ROW, (("l", "k", "m"), ends)), True)
        for locks in [("l", "k"), ("l", "k", "m", "m"), ("l", "k", "k"), ("l", "k", "x"), ("k", "l", "m"), (), ("lkm",),
                      ("l", "k", None), ("l", "k", ["m"]), ["l", "k", "m"], ("l", "k", EqualToAll()), "lkm"]:
            self.assertIs(is_short(NESTED, NESTED_ROW, (locks, ends)), False)

    def test_unknown_names_first(self):
        for call in (lambda: lock_pairs(DEVICE, WRONG_NAMES), lambda: lock_order(DEVICE, WRONG_NAMES),
                     lambda: short_paper(DEVICE, WRONG_NAMES), lambda: is_short(DEVICE, WRONG_NAMES, None),
                     lambda: left_alone(DEVICE, WRONG_NAMES, (), None, None)):
            with self.assertRaises(UnknownName) as caught:
                call()
            self.assertEqual(caught.exception.name, "g")

    def test_all_values_of_draws(self):
        told = {True: 0, False: 0}
        for device, row in draws(103, 250, (careful_row, careful_row, drawn_row)):
            if len(device.locks()) > 2:
                continue
            slow = Slow(device, row)
            right = [value for value in slow.values() if all(slow.rules(value))]
            for value in itertools.islice(slow.values(), 200):
                self.assertIs(is_short(device, row, value), value in right)
            for value in right:
                self.assertIs(is_short(device, row, value), True)
            paper = short_paper(device, row)
            self.assertEqual(paper, short_paper(device, row))
            self.assertTrue(paper in right if right else paper is None)
            told[paper is not None] += 1
        self.assertGreater(min(told.values()), 40, told)

    def test_a_row_with_a_short_paper_is_right(self):
        short = 0
        for device, row in draws(104, 300, (careful_row, careful_row, patient_row)):
            if short_paper(device, row) is None:
                continue
            try:
                self.assertIs(is_right(device, row), True)
                short += 1
            except LimitExceeded:
                continue
        self.assertGreater(short, 80)

    def test_all_ends_are_tried(self):
        # The first halt of v comes too early, and so do both settles of the other device.
        device = Device({"v": (USE,), "w": (("start", "v"),)})
        row = Row(("halt", "v"), ("halt", "w"), ("halt", "v"), ("halt", "w"))
        self.assertEqual([value for value in Slow(device, row).values() if all(Slow(device, row).rules(value))],
                         [((), (2, 1))])
        self.assertEqual(short_paper(device, row), ((), (2, 1)))
        device = Device({"v": (("start", "w"),), "w": (("start", "v"),)})
        row = Row(("halt", "v"), ("halt", "w"), ("bar", "w"), ("halt", "w"), ("halt", "v"))
        self.assertEqual(short_paper(device, row), ((), (4, 3)))


class TestLeftAlone(unittest.TestCase):
    def test_works(self):
        for ends, index, right in (((4, 6), 5, True), ((4, 6), 4, False), ((None, 6), 6, False), ((5, None), 6, True),
                                   ((0, None), 4, True), ((0, None), 3, False), ((6, 0), 6, False), ((5, 6), 6, True)):
            self.assertIs(left_alone(CHAIN, CHAIN_ROW, ends, index, "w"), right, (ends, index))

    def test_gates(self):
        for index in range(7):
            self.assertIs(left_alone(CHAIN, CHAIN_ROW, (None, None), index, "v"), index >= 2)
        again = Row(("drain", "d"), ("close", "d"), ("close", "d"), ("drain", "d"), ("halt", "v"))
        for index in range(5):
            self.assertIs(left_alone(CHAIN, again, (None, None), index, "v"), index == 4)
        told = left_alone(work="v", index=2, ends=(None, None), row=CHAIN_ROW, device=CHAIN)
        self.assertIs(told, True)

    def test_nobody_starts_it(self):
        device, row = Device({"v": (("start", "v"),), "w": (USE,)}), Row(("halt", "v"))
        self.assertIs(left_alone(device, row, (None, None), 0, "w"), True)
        self.assertIs(left_alone(device, row, (None, None), 0, "v"), True)

    def test_errors(self):
        for index in [7, -1, True, False, None, "0", 1.0, (), [], EqualToAll(), 10 ** 59]:
            for work in ("v", "x", None):
                with self.assertRaises(InvalidNumber) as caught:
                    left_alone(CHAIN, CHAIN_ROW, (None, None), index, work)
                self.assertIs(caught.exception.value, index)
        for work in strange_values() + ["x", "g", "c", "d", "f"]:
            with self.assertRaises(UnknownName) as caught:
                left_alone(CHAIN, CHAIN_ROW, (None, None), 0, work)
            self.assertIs(caught.exception.name, work)
        with self.assertRaises(InvalidNumber):
            left_alone(CHAIN, Row(), (None, None), 0, "v")

    def test_draws(self):
        source = random.Random(8)
        told = {True: 0, False: 0}
        for device, row in draws(105, 300, (careful_row, patient_row)):
            slow = Slow(device, row)
            for index in range(len(row)):
                ends = tuple(source.choice([None, *range(len(row))]) for _ in device.works())
                for work in device.works():
                    right = slow.alone(ends, index, work)
                    self.assertIs(left_alone(device, row, ends, index, work), right)
                    told[right] += 1
        self.assertGreater(min(told.values()), 300)


if __name__ == "__main__":
    unittest.main()

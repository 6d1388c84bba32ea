import random
import unittest

from draws import USE, drawn_device, drawn_step
from slow_rows import slow_price, slow_rows, slow_word
from takendown.cheapest import cheapest, is_floor
from takendown.devices import Device
from takendown.errors import InvalidNumber, InvalidStock, LimitExceeded, UnknownName
from takendown.moves import end_of, is_run
from takendown.rows import Row
from takendown.states import is_quiet
from takendown.tables import Table
from takendown.verdicts import is_right
from takendown.waits import is_waiting
from test_stocks import NO_NUMBERS, NO_STOCKS
from test_tables import NO_LIMITS
from values import EqualToAll, strange_values

CLOSE, DRAIN, BAR, HALT = ("close", "d"), ("drain", "d"), ("bar", "w"), ("halt", "w")
SETTLE, CANCEL = ("settle", "w"), ("cancel", "w")
TAKE, GIVE = ("take", "l"), ("give", "l")
# A crowd that starts the work, and a work that starts itself
CROWD = Device({"w": (USE,)}, crowds={"c": ("d", (("start", "w"),))})
SELF = Device({"w": (("start", "w"),)}, armed=("w",))
# A guest that comes in only while the lock is free, and needs it
KEPT = Device({"w": (("take", "l"), USE, ("give", "l"))}, {"g": ("d", (("take", "l"), ("give", "l")))}, armed=("w",))
STOCKS = [(CROWD, [CLOSE, DRAIN, BAR, HALT, SETTLE]), (SELF, [BAR, HALT, SETTLE, CANCEL]),
          (KEPT, [TAKE, CLOSE, DRAIN, GIVE, HALT]), (KEPT, [TAKE, GIVE, SETTLE, HALT])]


def all_runs_shown(device, row, member):
    """Whether a member of a floor shows that a row fails, looked at with nothing but runs and rounds."""
    steps, run, around = member
    if around is None:
        end = end_of(device, row, run[:-1]) if is_run(device, row, run) and run and run[-1] == ("step",) else None
        return tuple(row.steps()) == steps and end is not None and end[4] == len(row) and not is_quiet(device, row, end)
    if len(row) < len(steps) or tuple(row.steps()[:len(steps)]) != steps or not is_waiting(device, row, (run, around)):
        return False
    return len(steps) > 0 and end_of(device, row, run)[4] == len(steps) - 1


class TestCheapest(unittest.TestCase):
    def check(self, device, stock, told, *, wait=3, plain=1, longest=4):
        least, rows, floor = told
        self.assertIsInstance(told, tuple)
        self.assertEqual((type(rows), type(floor)), (list, list))
        self.assertIs(is_floor(device, stock, least, floor, wait=wait, plain=plain, longest=longest), True)
        right = []
        for row in slow_rows(stock, longest):
            cost = slow_price(row, wait, plain)
            if least is None or cost < least:
                self.assertFalse(is_right(device, row), row.steps())
                self.assertTrue(any(all_runs_shown(device, row, member) for member in floor), row.steps())
            elif cost == least and is_right(device, row):
                right.append(row)
        self.assertEqual(rows, right)
        self.assertEqual(least is None, rows == [])

    def test_crowd(self):
        told = cheapest(CROWD, [CLOSE, DRAIN, BAR, HALT, SETTLE])
        self.check(CROWD, STOCKS[0][1], told)
        self.assertEqual(told[0], 7)
        self.assertEqual([row.steps() for row in told[1]], [[CLOSE, DRAIN, HALT], [CLOSE, DRAIN, SETTLE]])

    def test_no_right_row(self):
        for device, stock in ((CROWD, [CLOSE, DRAIN]), (SELF, [SETTLE, CANCEL]), (CROWD, [HALT, BAR]), (SELF, [BAR])):
            told = cheapest(device, stock)
            self.assertEqual(told[:2], (None, []))
            self.check(device, stock, told)
        told = cheapest(CROWD, [CLOSE, DRAIN, BAR, HALT, SETTLE], longest=2)
        self.assertIsNone(told[0])
        self.check(CROWD, [CLOSE, DRAIN, BAR, HALT, SETTLE], told, longest=2)

    def test_a_device_that_needs_no_steps(self):
        told = cheapest(Device({"w": (USE,)}), [HALT])
        self.assertEqual(told, (0, [Row()], []))
        told = cheapest(Device({"w": (USE,)}), [HALT, BAR], wait=0, plain=0)
        self.assertEqual(told, (0, [Row(), Row(HALT), Row(BAR), Row(HALT, BAR), Row(BAR, HALT)], []))
        self.assertEqual(cheapest(device=Device({"w": (USE,)}), stock=[HALT, BAR], plain=0)[1], [Row(), Row(BAR)])
        self.assertEqual(cheapest(Device({"w": (USE,)}), [HALT], longest=0), (0, [Row()], []))

    def test_prices(self):
        for device, stock in STOCKS:
            for wait, plain in ((3, 1), (0, 0), (1, 1), (0, 1), (1, 0), (1000, 999), (1, 1000)):
                told = cheapest(device, stock, wait=wait, plain=plain)
                self.check(device, stock, told, wait=wait, plain=plain)
                self.assertEqual(told, cheapest(device, stock, wait=wait, plain=plain))
        self.assertEqual(cheapest(SELF, [BAR, HALT, CANCEL], wait=0, plain=0)[0], 0)
        self.assertEqual(cheapest(SELF, [BAR, HALT], wait=5, plain=10)[:2], (5, [Row(HALT)]))
        self.assertEqual(cheapest(SELF, [BAR, SETTLE], wait=5, plain=10)[:2], (15, [Row(BAR, SETTLE)]))

    def test_lengths(self):
        for device, stock in STOCKS:
            for longest in range(7 if len(stock) < 5 else 5):
                self.check(device, stock, cheapest(device, stock, longest=longest), longest=longest)

    def test_locks(self):
        device = Device({"w": (("test", "f", (("take", "l"), ("start", "w"), ("give", "l")), ()),)}, armed=("w",))
        for stock in ([TAKE, GIVE, HALT], [TAKE, GIVE, BAR, HALT], [GIVE, SETTLE, TAKE, CANCEL]):
            self.check(device, stock, cheapest(device, stock))
        # A row that takes the lock and settles waits behind these two steps, which are no row.
        told = cheapest(KEPT, [TAKE, GIVE, SETTLE], longest=3)
        self.assertIn((TAKE, SETTLE), [steps for steps, _, _ in told[2]])
        self.check(KEPT, [TAKE, GIVE, SETTLE], told, longest=3)

    def test_new_lists(self):
        stock = [CLOSE, DRAIN, BAR, HALT, SETTLE]
        told = cheapest(CROWD, stock)
        told[1].clear()
        told[2].clear()
        self.assertEqual(stock, [CLOSE, DRAIN, BAR, HALT, SETTLE])
        self.check(CROWD, stock, cheapest(CROWD, stock))

    def test_draws(self):
        source = random.Random(121)
        found = {True: 0, False: 0}
        while min(found.values()) < 12:
            device = drawn_device(source)
            stock = sorted({step for _ in range(source.choice((2, 3, 4))) for step in drawn_step(source, device)})
            stock += [step for step in (("close", "d"), ("drain", "d"), ("halt", "w")) if step not in stock]
            source.shuffle(stock)
            stock = [step for step in stock if step[1] in
                     device.works() + device.gates() + device.flags() + device.locks()][:4]
            if not stock or any((step[0] in ("close", "drain")) != (step[1] in device.gates()) for step in stock):
                continue
            rows = slow_rows(stock, 3)
            words = [slow_word(device, row, 40) for row in rows[:20]]
            if None in words or len(rows) > 20:
                continue
            wait, plain = source.choice(((3, 1), (1, 1), (2, 3)))
            told = cheapest(device, stock, wait=wait, plain=plain, longest=3)
            right = [row for row, word in zip(rows, words) if word == "right"]
            least = min([slow_price(row, wait, plain) for row in right], default=None)
            self.assertEqual(told[:2], (least, [row for row in right if slow_price(row, wait, plain) == least]))
            self.check(device, stock, told, wait=wait, plain=plain, longest=3)
            found[least is None] += 1


class TestErrors(unittest.TestCase):
    CALLS = (lambda device, stock, **told: cheapest(device, stock, **told),
             lambda device, stock, **told: is_floor(device, stock, -1, None, **told))

    def test_stock_first(self):
        for value in NO_STOCKS + strange_values():
            for call in self.CALLS:
                with self.assertRaises(InvalidStock) as caught:
                    call(CROWD, value, wait=-1, plain=-1, longest=-1)
                self.assertIs(caught.exception.value, value)

    def test_numbers(self):
        for value in NO_NUMBERS:
            for call in self.CALLS:
                for told in ({"wait": value, "plain": -7, "longest": 9}, {"plain": value, "longest": 9},
                             {"longest": value}):
                    with self.assertRaises(InvalidNumber) as caught:
                        call(CROWD, [HALT, ("halt", "x")], **told)
                    self.assertIs(caught.exception.value, value)
        for call in self.CALLS:
            with self.assertRaises(InvalidNumber) as caught:
                call(CROWD, [("halt", "x")], longest=7)
            self.assertEqual(caught.exception.value, 7)

    def test_names(self):
        for stock, name in (([HALT, ("halt", "x"), ("close", "y")], "x"), ([("close", "c")], "c"), ([("halt", "d")], "d"),
                            ([CLOSE, ("set", "w"), ("take", "w")], "w"), ([GIVE, ("close", "x")], "l")):
            for call in self.CALLS:
                with self.assertRaises(UnknownName) as caught:
                    call(CROWD, stock, longest=0)
                self.assertEqual(caught.exception.name, name)
        with self.assertRaises(UnknownName):
            cheapest(CROWD, [GIVE], limit=0)

    def test_limit(self):
        for value in NO_LIMITS:
            with self.assertRaises(InvalidNumber) as caught:
                cheapest(CROWD, [HALT], limit=value)
            self.assertIs(caught.exception.value, value)

    def test_limit_exceeded(self):
        stock = [CLOSE, DRAIN, HALT, SETTLE]
        rows = slow_rows(stock, 4)
        least, _, floor = cheapest(CROWD, stock)
        asked = [row for row in rows if slow_price(row) <= least]
        # Behind the steps at which a row waits nothing need be looked at.
        waiting = [steps for steps, _, around in floor if around is not None]
        sure = [row for row in asked if not any(tuple(row.steps()[:len(steps)]) == steps for steps in waiting)]
        most = max(len(Table(CROWD, row)) for row in asked)
        self.assertEqual(cheapest(CROWD, stock, limit=most), cheapest(CROWD, stock))
        self.assertGreater(max(len(Table(CROWD, row)) for row in rows), most)
        many = max(len(Table(CROWD, row)) for row in sure)
        for limit in (1, many // 2, many - 1):
            with self.assertRaises(LimitExceeded) as caught:
                cheapest(CROWD, stock, limit=limit)
            self.assertEqual(caught.exception.limit, limit)
        with self.assertRaises(LimitExceeded):
            cheapest(CROWD, [CLOSE, BAR], limit=len(Table(CROWD, Row(CLOSE, BAR))) - 1)
        cheapest(CROWD, [CLOSE, BAR], limit=max(len(Table(CROWD, row)) for row in slow_rows([CLOSE, BAR], 4)))


class TestIsFloor(unittest.TestCase):
    STOCK = [CLOSE, DRAIN, BAR, HALT, SETTLE]
    TOLD = cheapest(CROWD, STOCK)

    def check(self, floor, right, price=7, stock=STOCK, device=CROWD, **told):
        self.assertIs(is_floor(device, stock, price, floor, **told), right, floor)

    def test_told_ones(self):
        floor = self.TOLD[2]
        self.check(floor, True)
        self.check(floor[::-1], True)
        self.check(floor + floor[:1], True)
        self.check(floor[1:2] + floor, True)
        self.assertIs(is_floor(floor=floor, price=7, stock=self.STOCK, device=CROWD, longest=4, plain=1, wait=3), True)

    def test_prices(self):
        floor = self.TOLD[2]
        for price in range(8):
            self.check(floor, True, price)
        for price in (8, 9, 1000, 10 ** 59, None):
            self.check(floor, False, price)
        self.check([], True, 0)
        self.check([], False, 1)
        self.check([], False, None)
        self.check(floor, False, 7, wait=2)
        self.check(floor, True, 3, wait=1)
        self.check(floor, False, 5, wait=1)
        self.check(floor, True, 7, longest=5)
        # Rows of three steps are none out of the stock then.
        self.check(floor, False, 7, longest=2)
        none = cheapest(CROWD, self.STOCK, longest=2)[2]
        for price in (None, 0, 7, 100, 10 ** 50):
            self.check(none, True, price, longest=2)
        self.check(none, False, None)
        self.check(none, False, 8, longest=3)

    def test_members_left_out(self):
        for device, stock in STOCKS:
            price, _, floor = cheapest(device, stock)
            for at, member in enumerate(floor):
                rest = floor[:at] + floor[at + 1:]
                shown = all(any(all_runs_shown(device, row, other) for other in rest)
                            for row in slow_rows(stock, 4) if price is None or slow_price(row) < price)
                self.check(rest, shown, price, stock, device)
                if member[2] is None:
                    self.assertFalse(shown)

    def test_loud_members(self):
        run = Table(CROWD, Row()).loud()
        self.check([((), run, None)], True, 1)
        self.check([((), [("come", "c")] + run, None)], True, 1)
        self.check([((), run, None), ((CLOSE,), [("come", "c"), ("step",), ("step",)], None)], True, 0)
        for run in ([], [("step",), ("step",)], tuple(run), None, [None], [("come", "c")]):
            self.check([((), run, None)], False, 1)
        for steps in ((CLOSE,), [], None, (None,), ((),), (list(CLOSE),), (("close",),), "", (CLOSE, CLOSE)):
            self.check([(steps, [("step",)], None)], False, 0)
        # A loud run of another row, of no row, and of one that is too long
        self.check([((CLOSE,), [("step",)], None)], False, 0)
        for many in (1, 2, 3, 4):
            self.check([((TAKE,), [("step",)] * many, None)], False, 0, [TAKE, GIVE, HALT], KEPT)
        self.check([((TAKE, GIVE), [("step",)] * 3, None)], True, 0, [TAKE, GIVE, HALT], KEPT)
        self.check([((HALT, BAR), [("step",)] * 3, None)], True, 0)
        self.check([((HALT, BAR), [("step",)] * 3, None)], False, 0, longest=1)
        self.check([((CANCEL,), [("step",)] * 2, None)], False, 0)

    def test_waiting_members(self):
        start = [("come", "c"), ("pass", "c", 0, 0, False), ("begin", "w")]
        around = start[:2] + [("go", "w", 0), ("begin", "w")]
        member = ((SETTLE,), start, around)
        self.check([member], True, 0)
        for floor in ([((SETTLE,), start, [])], [((SETTLE,), start, None)], [((SETTLE,), start[:2], around)],
                      [((HALT,), start, around)], [((), *member[1:])], [((SETTLE, HALT), *member[1:])],
                      [((BAR, SETTLE), *member[1:])], [((SETTLE,), tuple(start), member[2])], [list(member)],
                      [member + (None,)], [member[:2]], [((SETTLE,), start, tuple(member[2]))], [([SETTLE], *member[1:])]):
            self.check(floor, False, 0)
        # Who begins with a settle waits there, whatever comes behind it.
        price = cheapest(CROWD, [SETTLE, BAR, HALT])[0]
        self.assertIsNone(price)
        rows = [row for row in slow_rows([SETTLE, BAR, HALT], 4) if row.steps()[:1] != [SETTLE]]
        settled = [row for row in rows if SETTLE in row.steps()]
        others = [(tuple(row.steps()), Table(CROWD, row).loud(), None) for row in rows]
        self.check([member] + others, True, None, [SETTLE, BAR, HALT])
        self.check(others, False, None, [SETTLE, BAR, HALT])
        self.assertTrue(settled)

    def test_a_round_behind_some_steps(self):
        price, _, floor = self.TOLD
        shown = [member for member in floor if member[2] is not None and len(member[0]) > 1]
        self.assertTrue(shown)
        for steps, run, around in shown:
            for bent in (steps[:-1], steps + (CLOSE,), steps[:-1] + (CLOSE,), steps[1:]):
                self.check(floor + [(bent, run, around)], False, price)

    def test_dead_stands(self):
        price, rows, floor = cheapest(KEPT, [TAKE, GIVE, SETTLE, CLOSE, DRAIN, HALT])
        dead = [member for member in floor if member[2] == []]
        self.assertTrue(dead)
        self.assertEqual((price is None, rows == []), (False, False))
        for steps, run, _ in dead:
            others = [member for member in floor if member[0] != steps]
            self.check(others + [(steps, run, [])], True, price, [TAKE, GIVE, SETTLE, CLOSE, DRAIN, HALT], KEPT)
            self.check(others + [(steps, run, None)], False, price, [TAKE, GIVE, SETTLE, CLOSE, DRAIN, HALT], KEPT)
            self.check(others + [(steps, run, ())], False, price, [TAKE, GIVE, SETTLE, CLOSE, DRAIN, HALT], KEPT)

    def test_any_value(self):
        for value in strange_values():
            if not isinstance(value, list) or value:
                self.check(value, False, 0)
            self.check([value], False, 0)
            for at in range(3):
                member = self.TOLD[2][0]
                bent = member[:at] + (value,) + member[at + 1:]
                if repr(bent) != repr(member):
                    self.check([bent], False, 0)
        self.check(tuple(self.TOLD[2]), False)
        self.check([self.TOLD[2]], False)

    def test_price_behind_the_others(self):
        for value in [True, False, -1, "7", [], (), EqualToAll(), -10 ** 40]:
            with self.assertRaises(InvalidNumber) as caught:
                is_floor(CROWD, self.STOCK, value, None)
            self.assertIs(caught.exception.value, value)
        with self.assertRaises(UnknownName):
            is_floor(CROWD, [("halt", "x")], -1, [])
        with self.assertRaises(InvalidNumber) as caught:
            is_floor(CROWD, self.STOCK, -1, [], longest=-2)
        self.assertEqual(caught.exception.value, -2)


class TestGuarantee(unittest.TestCase):
    def test_who_waits_at_a_step_does_so_whatever_is_behind_it(self):
        for device, stock in STOCKS:
            for steps, run, around in cheapest(device, stock, longest=3)[2]:
                if around is None:
                    continue
                rows = [row for row in slow_rows(stock, 4) if tuple(row.steps()[:len(steps)]) == steps]
                self.assertTrue(rows)
                for row in rows:
                    self.assertIs(is_waiting(device, row, (run, around)), True)


if __name__ == "__main__":
    unittest.main()

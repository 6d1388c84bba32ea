import itertools
import unittest

from slow_rows import slow_price, slow_rows
from takendown.errors import InvalidNumber, InvalidStock
from takendown.rows import Row
from takendown.stocks import price, rows_of
from values import EqualToAll, strange_values

HALT, DRAIN, CLOSE, BAR = ("halt", "w"), ("drain", "d"), ("close", "d"), ("bar", "w")
TAKE, GIVE = ("take", "l"), ("give", "l")
OTHERS = [("take", "k"), ("give", "k")]
# A list that is no stock, and why
NO_STOCKS = [
    [], [HALT, CLOSE, HALT], [HALT, list(CLOSE)], [HALT, ("halt",)], [("start", "w")], [HALT, ("halt", "W")], [HALT, None],
    [HALT, DRAIN, CLOSE, BAR, TAKE, GIVE, ("set", "f")], (HALT, CLOSE), {HALT: CLOSE}, {HALT}, Row(HALT), "halt w", HALT,
    [EqualToAll()], [HALT, (EqualToAll(), "w")], [[HALT]],
]
NO_NUMBERS = [True, False, -1, None, "3", 1001, 10 ** 40, [], (3,), EqualToAll()]


class TestRowsOf(unittest.TestCase):
    def test_order(self):
        told = [row.steps() for row in rows_of([HALT, CLOSE, BAR], 2)]
        self.assertEqual(told, [[], [HALT], [CLOSE], [BAR], [HALT, CLOSE], [HALT, BAR], [CLOSE, HALT], [CLOSE, BAR],
                                [BAR, HALT], [BAR, CLOSE]])

    def test_lengths(self):
        stock = [HALT, CLOSE, BAR, DRAIN, ("set", "f"), ("settle", "w")]
        for longest, many in enumerate((1, 7, 37, 157, 517, 1237, 1957)):
            rows = list(rows_of(stock, longest))
            self.assertEqual(len(rows), many)
            self.assertEqual(max(len(row) for row in rows), longest)
            self.assertTrue(all(isinstance(row, Row) for row in rows))
        self.assertEqual(list(rows_of([HALT], 6)), [Row(), Row(HALT)])
        self.assertEqual(list(rows_of(longest=0, stock=[HALT])), [Row()])

    def test_takes_and_gives(self):
        told = [row.steps() for row in rows_of([GIVE, TAKE, HALT], 3)]
        self.assertEqual(told, [[], [HALT], [TAKE, GIVE], [TAKE, GIVE, HALT], [TAKE, HALT, GIVE], [HALT, TAKE, GIVE]])
        for stock in ([TAKE, GIVE] + OTHERS, [GIVE], [TAKE, HALT], OTHERS + [HALT, TAKE, CLOSE, GIVE]):
            for longest in range(5):
                self.assertEqual(list(rows_of(stock, longest)), slow_rows(stock, longest))

    def test_all_stocks_of_some_steps(self):
        steps = [HALT, TAKE, GIVE, CLOSE] + OTHERS
        for many in range(1, 5):
            for stock in itertools.permutations(steps, many):
                self.assertEqual(list(rows_of(list(stock), 4)), slow_rows(stock, 4))

    def test_rows_are_new(self):
        stock = [HALT, CLOSE]
        first, again = list(rows_of(stock, 2)), list(rows_of(stock, 2))
        self.assertEqual(first, again)
        self.assertFalse(any(one is other for one in first for other in again))

    def test_the_stock_stays_as_it_is(self):
        stock = [HALT, TAKE, GIVE]
        told = []
        for row in rows_of(stock, 3):
            stock[:] = [BAR]
            told.append(row)
        self.assertEqual(told, slow_rows([HALT, TAKE, GIVE], 3))

    def test_no_stock(self):
        for value in NO_STOCKS + [value for value in strange_values()]:
            for longest in (2, None, 7):
                with self.assertRaises(InvalidStock) as caught:
                    list(rows_of(value, longest))
                self.assertIs(caught.exception.value, value)

    def test_longest(self):
        for value in [7, *NO_NUMBERS]:
            with self.assertRaises(InvalidNumber) as caught:
                list(rows_of([HALT], value))
            self.assertIs(caught.exception.value, value)


class TestPrice(unittest.TestCase):
    ROW = Row(CLOSE, DRAIN, BAR, HALT, ("settle", "w"), ("cancel", "w"), TAKE, GIVE)

    def test_kinds(self):
        for word in ("halt", "settle", "drain"):
            self.assertEqual(price(Row((word, "x"))), 3)
            self.assertEqual(price(Row((word, "x")), wait=7), 7)
        for word in ("cancel", "bar", "close", "set", "clear"):
            self.assertEqual(price(Row((word, "x"))), 1)
            self.assertEqual(price(Row((word, "x")), plain=7), 7)
        self.assertEqual((price(Row.locked("l")), price(Row.locked("l"), wait=9, plain=4)), (2, 8))

    def test_sums(self):
        self.assertEqual(price(self.ROW), 14)
        self.assertEqual(price(row=self.ROW, plain=0, wait=1), 3)
        self.assertEqual(price(self.ROW, wait=0), 5)
        self.assertEqual(price(self.ROW, wait=1000, plain=1000), 8000)
        self.assertEqual(price(self.ROW, wait=0, plain=0), 0)
        self.assertEqual(price(Row(), wait=5, plain=5), 0)
        self.assertIs(type(price(Row())), int)
        for wait, plain in itertools.product((0, 1, 5), repeat=2):
            self.assertEqual(price(self.ROW, wait=wait, plain=plain), slow_price(self.ROW, wait, plain))

    def test_errors(self):
        for value in NO_NUMBERS:
            for call in (lambda: price(Row(), wait=value), lambda: price(Row(), plain=value),
                         lambda: price(Row(), plain=-5, wait=value)):
                with self.assertRaises(InvalidNumber) as caught:
                    call()
                self.assertIs(caught.exception.value, value)
        with self.assertRaises(TypeError):
            price(Row(), 3, 1)


if __name__ == "__main__":
    unittest.main()

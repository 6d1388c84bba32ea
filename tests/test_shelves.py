"""What is kept of a device and a row between calls: it is made but once, and what is told is as if it never was kept."""

import itertools
import unittest
from unittest import mock

from draws import DEVICE, ROW, draws
from slow import slow_moves, slow_table
from takendown import courses
from takendown.devices import Device
from takendown.endings import is_ending
from takendown.errors import UnknownName
from takendown.moves import after, end_of, is_run, moves
from takendown.rows import Row
from takendown.shelves import MOST_KEPT, Shelf
from takendown.states import first_state, held_by, is_quiet, is_state
from takendown.tables import Table, is_closed
from takendown.users import CountedTable, is_closed_for
from takendown.verdicts import is_verdict
from takendown.waits import is_dead, is_round, is_waiting, movers

SMALL = (({"w": (("test", "f", (("start", "w"),), ()),)}, {"g": ("door", (("use",),))}), {"armed": ("w",)})


def small():
    return Device(*SMALL[0], **SMALL[1])


class TestShelf(unittest.TestCase):
    def test_what_is_kept(self):
        shelf = Shelf()
        self.assertIsNone(shelf.look_up("a"))
        shelf.store("a", 1)
        shelf.store("b", 2)
        self.assertEqual((shelf.look_up("a"), shelf.look_up("b"), shelf.look_up("c")), (1, 2, None))

    def test_no_more_than_the_most(self):
        shelf = Shelf()
        for number in range(3 * MOST_KEPT):
            shelf.store(number, str(number))
            self.assertEqual(shelf.look_up(number), str(number))
            self.assertLessEqual(sum(shelf.look_up(one) is not None for one in range(3 * MOST_KEPT)), MOST_KEPT)


class TestAskedAgain(unittest.TestCase):
    def test_nothing_is_made_twice(self):
        device, row = small(), Row(("close", "door"), ("halt", "w"))
        states = Table(device, row).states()
        closed = CountedTable(device, row, 0).states()
        with mock.patch.object(courses, "Course", side_effect=AssertionError):
            for state in states:
                for move in moves(device, row, state):
                    after(device, row, state, move)
                movers(device, row, state)
                is_dead(device, row, state)
                is_round(device, row, state, [])
                is_quiet(device, row, state)
                held_by(device, row, state)
            self.assertTrue(is_state(device, row, first_state(device, row)))
            self.assertTrue(is_run(device, row, [("begin", "w"), ("step",)]))
            end_of(device, row, [("begin", "w"), ("go", "w", 1)])
            is_waiting(device, row, ([], []))
            is_closed(device, row, states)
            is_ending(device, row, states, [])
            is_verdict(device, row, ("right", states, []))
            is_closed_for(device, row, 0, closed)
            # An equal row is no other one.
            moves(device, Row(*row.steps()), states[0])

    def test_many_rows_in_turn(self):
        device = small()
        steps = (("close", "door"), ("halt", "w"), ("settle", "w"), ("bar", "w"), ("set", "f"), ("cancel", "w"))
        rows = [Row(*chosen) for chosen in itertools.permutations(steps, 3)]
        self.assertGreater(len(rows), MOST_KEPT)
        told = [[moves(device, row, state) for state in Table(device, row).states()] for row in rows]
        for _ in range(2):
            for row, known in zip(rows, told):
                other = small()
                self.assertEqual([moves(other, row, state) for state in Table(device, row).states()], known)

    def test_devices_do_not_share(self):
        one, other = small(), Device({"w": (("use",),)}, {"g": ("door", (("use",),))}, armed=("w",))
        row = Row(("halt", "w"))
        for _ in range(2):
            self.assertEqual(len(Table(one, row).states()[0][1]), 1)
            self.assertEqual(Table(other, row).states()[0][1], ())

    def test_what_does_not_fit_is_told_each_time(self):
        device = small()
        for _ in range(3):
            with self.assertRaises(UnknownName) as told:
                moves(device, Row(("halt", "w"), ("halt", "v")), None)
            self.assertEqual(told.exception.name, "v")
            self.assertEqual(moves(device, Row(("halt", "w")), first_state(device, Row()))[0], ("begin", "w"))

    def test_changed_lists_change_nothing(self):
        told = moves(DEVICE, ROW, first_state(DEVICE, ROW))
        known = list(told)
        told.clear()
        self.assertEqual(moves(DEVICE, ROW, first_state(DEVICE, ROW)), known)

    def test_against_slow_moves_again(self):
        for device, row in draws(1101, 40):
            states = slow_table(device, row, 150)
            for state in list(states or ())[::3] * 2:
                self.assertEqual([(move, after(device, row, state, move)) for move in moves(device, row, state)],
                                 slow_moves(device, row, state))


if __name__ == "__main__":
    unittest.main()

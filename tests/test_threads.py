import unittest

from takendown.bodies import Body
from takendown.errors import InvalidItem, NotACrowd, UnknownName
from takendown.threads import Crowd, Gated, Guest, Work
from values import EqualToAll, namesake, nested, strange_values

USE = ("use",)
PIECE = ("piece", "l", (USE,))
NOT_FOR_CROWDS = (("cancel", "w"), ("set", "f"), ("clear", "f"), ("take", "l"))


def fault_of(kind, *words):
    """Return the class of the error with which a thread is not made, and what it tells, or None."""
    try:
        kind(*words)
    except UnknownName as error:
        return (UnknownName, error.name)
    except InvalidItem as error:
        return (InvalidItem, error.place)
    except NotACrowd as error:
        return (NotACrowd, error.name, error.place)
    return None


class TestNames(unittest.TestCase):
    def test_first_name_or_gate_that_is_none(self):
        self.assertEqual(fault_of(Work, "W", (USE,)), (UnknownName, "W"))
        for kind in (Guest, Crowd):
            self.assertEqual(fault_of(kind, "V", "G", (USE,)), (UnknownName, "V"))
            self.assertEqual(fault_of(kind, "v", "G", (USE,)), (UnknownName, "G"))
            self.assertEqual(fault_of(kind, "V", "g", (USE,)), (UnknownName, "V"))
            self.assertIsNone(fault_of(kind, "abcdefgh", "abcdefgh", (USE,)))

    def test_names_are_looked_at_ahead_of_the_body(self):
        self.assertEqual(fault_of(Work, "", ()), (UnknownName, ""))
        self.assertEqual(fault_of(Work, "", (PIECE,)), (UnknownName, ""))
        for kind in (Guest, Crowd):
            self.assertEqual(fault_of(kind, "v", "", (5,)), (UnknownName, ""))
            self.assertEqual(fault_of(kind, "abcdefghi", "g", (PIECE, ("set", "f"))), (UnknownName, "abcdefghi"))

    def test_any_value(self):
        for value in strange_values():
            for call in ((Work, value, (USE,)), (Guest, value, "g", (USE,)), (Guest, "v", value, (USE,)),
                         (Crowd, value, "g", (USE,)), (Crowd, "v", value, (USE,))):
                with self.assertRaises(UnknownName) as caught:
                    call[0](*call[1:])
                self.assertIs(caught.exception.name, value)


class TestBodies(unittest.TestCase):
    def test_errors_of_a_body(self):
        cases = (((), None), ([USE], None), ((USE, 5), 1), ((USE,) * 9, None), ((USE, ("take", "l")), 1),
                 ((nested(4),), 3))
        for items, place in cases:
            self.assertEqual(fault_of(Work, "w", items), (InvalidItem, place))
            self.assertEqual(fault_of(Guest, "w", "g", items), (InvalidItem, place))
            self.assertEqual(fault_of(Crowd, "w", "g", items), (InvalidItem, place))

    def test_first_piece_of_a_work_or_guest(self):
        cases = (((PIECE,), 0), ((USE, PIECE, PIECE), 1), ((("choose", (USE,), (("test", "f", (PIECE,), ()),)),), 3))
        for items, place in cases:
            self.assertEqual(fault_of(Work, "w", items), (InvalidItem, place))
            self.assertEqual(fault_of(Guest, "w", "g", items), (InvalidItem, place))
            self.assertIsNone(fault_of(Crowd, "w", "g", items))

    def test_errors_of_a_body_come_ahead_of_pieces(self):
        self.assertEqual(fault_of(Work, "w", (PIECE, ("give", "l"))), (InvalidItem, 1))
        self.assertEqual(fault_of(Guest, "w", "g", (PIECE,) + (USE,) * 8), (InvalidItem, None))
        self.assertEqual(fault_of(Crowd, "w", "g", (("set", "f"), ("give", "l"))), (InvalidItem, 1))

    def test_not_a_crowd(self):
        for item in NOT_FOR_CROWDS:
            ends = (("give", "l"),) if item[0] == "take" else ()
            self.assertEqual(fault_of(Crowd, "c", "g", (item,) + ends), (NotACrowd, "c", 0))
            self.assertEqual(fault_of(Crowd, "d", "g", (USE, PIECE, item) + ends), (NotACrowd, "d", 2))
            within = ("test", "f", (("choose", (), (USE, item) + ends),), ())
            self.assertEqual(fault_of(Crowd, "c", "g", (within, ("set", "f"))), (NotACrowd, "c", 3))

    def test_what_a_crowd_may_have(self):
        items = (USE, ("start", "w"), ("test", "f", (USE,), ()), ("choose", (), (PIECE,)))
        self.assertIsNone(fault_of(Crowd, "c", "g", items))
        self.assertEqual(Crowd("c", "g", items).size, 6)

    def test_what_works_and_guests_may_have(self):
        items = NOT_FOR_CROWDS + (("give", "l"), USE, ("choose", (), ()), ("test", "f", (), ()))
        self.assertEqual((Work("w", items).size, Guest("v", "g", items).size), (8, 8))


class TestThreads(unittest.TestCase):
    def test_classes(self):
        work, guest, crowd = Work("w", (USE,)), Guest("v", "g", (USE,)), Crowd("c", "d", (USE,))
        for thread in (work, guest, crowd):
            self.assertIsInstance(thread, Body)
        self.assertIsInstance(guest, Gated)
        self.assertIsInstance(crowd, Gated)
        self.assertNotIsInstance(work, Gated)
        self.assertFalse(isinstance(guest, Crowd) or isinstance(crowd, Guest))

    def test_label_kind_gate_code(self):
        work, guest, crowd = Work("w", (USE,)), Guest("v", "g", (USE, USE)), Crowd("c", "d", (PIECE,))
        self.assertEqual((work.label, work.kind(), work.code), ("w", "work", (USE,)))
        self.assertEqual((guest.label, guest.kind(), guest.gate, guest.code), ("v", "guest", "g", (USE, USE)))
        self.assertEqual((crowd.label, crowd.kind(), crowd.gate, crowd.code), ("c", "crowd", "d", (PIECE,)))
        self.assertFalse(hasattr(work, "gate"))

    def test_by_name(self):
        self.assertEqual(Work(items=(USE,), name="w"), Work("w", (USE,)))
        self.assertEqual(Guest(items=(USE,), gate="g", name="v"), Guest("v", "g", (USE,)))
        self.assertEqual(Crowd(items=(USE,), gate="g", name="v"), Crowd("v", "g", (USE,)))

    def test_as_bodies(self):
        items = (("test", "f", (("start", "w"),), ()), USE)
        for thread in (Work("w", items), Guest("v", "g", items), Crowd("c", "d", items)):
            self.assertEqual((thread.size, len(thread), thread.nexts(0), thread.item(1)), (3, 3, (1, 2), ("start", "w")))
            self.assertEqual((thread.flags(), thread.works(), thread.locks(), thread.held(3)), (["f"], ["w"], [], ()))

    def test_properties_do_not_change(self):
        guest = Guest("v", "g", (USE,))
        for name in ("label", "gate", "code", "size"):
            with self.assertRaises(AttributeError):
                setattr(guest, name, "x")
        with self.assertRaises(AttributeError):
            Work("w", (USE,)).label = "x"

    def test_equal(self):
        for one, same, *others in (
                (Work("w", (USE,)), Work("w", (USE,)), Work("v", (USE,)), Work("w", (USE, USE))),
                (Guest("w", "g", (USE,)), Guest("w", "g", (USE,)), Guest("v", "g", (USE,)), Guest("w", "h", (USE,)),
                 Guest("w", "g", (USE, USE))),
                (Crowd("w", "g", (USE,)), Crowd("w", "g", (USE,)), Crowd("v", "g", (USE,)), Crowd("w", "h", (USE,)),
                 Crowd("w", "g", (USE, USE)))):
            self.assertTrue(one == same and not one != same)
            for other in others:
                self.assertTrue(one != other and not one == other)

    def test_gated(self):
        one = Gated("w", "g", (USE,))
        self.assertTrue(one == Gated("w", "g", (USE,)) and one.gate == "g")
        for other in (Gated("v", "g", (USE,)), Gated("w", "h", (USE,)), Gated("w", "g", (USE, USE)),
                      Guest("w", "g", (USE,)), Work("w", (USE,))):
            self.assertTrue(one != other and other != one)

    def test_unlike_classes_are_not_equal(self):
        class OtherWork(Work):
            pass

        class OtherGuest(Guest):
            pass

        threads = [Body((USE,)), Work("w", (USE,)), Guest("w", "g", (USE,)), Crowd("w", "g", (USE,)),
                   OtherWork("w", (USE,)), OtherGuest("w", "g", (USE,))]
        for at, one in enumerate(threads):
            for index, other in enumerate(threads):
                self.assertEqual(one == other, at == index)
                self.assertEqual(one != other, at != index)

    def test_equal_to_no_other_value(self):
        for one in (Work("w", (USE,)), Guest("w", "g", (USE,)), Crowd("w", "g", (USE,))):
            for value in strange_values() + ["w", (USE,), ("w", (USE,)), namesake(one)]:
                self.assertFalse(one == value)
                if not isinstance(value, EqualToAll):
                    self.assertFalse(value == one)


if __name__ == "__main__":
    unittest.main()

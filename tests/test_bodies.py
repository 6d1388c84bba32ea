import inspect
import unittest

from reference import first_wrong, laid_out, locks_held, next_places, some_bodies
from takendown.bodies import Body, order
from takendown.errors import InvalidItem, InvalidNumber
from takendown.items import is_body
from takendown.threads import Crowd, Guest, Work
from values import EqualToAll, namesake, nested, strange_values

USE = ("use",)
TAKE, GIVE = ("take", "l"), ("give", "l")
TAKE_K, GIVE_K = ("take", "k"), ("give", "k")


def place_of(items):
    """Return the place that Body's error tells, in a tuple, or () if the body is made."""
    try:
        Body(items)
    except InvalidItem as error:
        return (error.place,)
    return ()


class TestBodyErrors(unittest.TestCase):
    def test_no_nonempty_tuple(self):
        for items in ((), [], [USE], "use", None, 5, True, {"use": 1}, {USE}, Body((USE,))):
            self.assertEqual(place_of(items), (None,), items)

    def test_by_name(self):
        self.assertEqual(Body(items=(USE,)).code, (USE,))

    def test_first_item_that_is_none(self):
        self.assertEqual(place_of(USE), (0,))
        self.assertEqual(place_of((["use"],)), (0,))
        self.assertEqual(place_of((USE, ("use", "w"), ("start",))), (1,))
        self.assertEqual(place_of((USE, USE, None)), (2,))
        self.assertEqual(place_of((("start", "toolongname"),)), (0,))
        self.assertEqual(place_of((USE, ("test", "f", [], ()))), (1,))
        self.assertEqual(place_of((USE, ("choose", (), [USE]))), (1,))

    def test_items_in_tuples_have_their_own_numbers(self):
        self.assertEqual(place_of((("test", "f", (USE, ["use"]), (None,)), None)), (2,))
        self.assertEqual(place_of((("test", "f", (USE, USE), (USE, None)), None)), (4,))
        self.assertEqual(place_of((("choose", (("choose", (USE,), (5,)),), (5,)),)), (3,))
        self.assertEqual(place_of((("choose", (), (("start", "W"),)), USE)), (1,))
        self.assertEqual(place_of((("test", "F", (5,), (5,)), USE)), (0,))
        self.assertEqual(place_of((("choose", (USE,), ()), 5)), (2,))

    def test_items_in_a_piece_are_looked_at_with_it(self):
        self.assertEqual(place_of((USE, ("piece", "l", (USE, USE, None)))), (1,))
        self.assertEqual(place_of((USE, ("piece", "l", (("test", "f", (("set", "f"),), ()),)))), (1,))
        self.assertEqual(place_of((USE, ("piece", "l", (USE,) * 5), None)), (1,))
        self.assertEqual(place_of((("piece", "l", (USE,) * 4), None)), (1,))
        self.assertEqual(place_of((("choose", (USE,), (("piece", "l", ()),)),)), (2,))

    def test_a_test_in_three_others(self):
        self.assertEqual(place_of((nested(3),)), ())
        self.assertEqual(place_of((nested(4),)), (3,))
        self.assertEqual(place_of((USE, nested(4, "choose"))), (4,))
        self.assertEqual(place_of((nested(3, "test", (USE, ("choose", (5,), ()))),)), (4,))
        self.assertEqual(place_of((nested(3, "test", (("piece", "l", (nested(3),)),)),)), ())
        self.assertEqual(place_of((nested(3, "test", (("piece", "l", (nested(4),)),)),)), (3,))

    def test_more_than_eight(self):
        self.assertEqual(place_of((USE,) * 8), ())
        self.assertEqual(place_of((USE,) * 9), (None,))
        self.assertEqual(place_of((("choose", (USE,) * 4, (USE,) * 3),)), ())
        self.assertEqual(place_of((("choose", (USE,) * 4, (USE,) * 3), USE)), (None,))
        self.assertEqual(place_of((("test", "f", (nested(2),), (nested(2), USE, USE)), USE)), ())
        self.assertEqual(place_of((("test", "f", (nested(2),), (nested(2), USE, USE)), USE, USE)), (None,))
        self.assertEqual(place_of((("piece", "l", (USE,) * 4),) * 8), ())

    def test_an_item_that_is_none_is_told_ahead_of_too_many(self):
        self.assertEqual(place_of((USE,) * 8 + (None,)), (8,))
        self.assertEqual(place_of((USE,) * 11 + (("choose", (USE, 5), ()),)), (13,))

    def test_too_many_are_told_ahead_of_locks(self):
        self.assertEqual(place_of((TAKE,) + (USE,) * 8), (None,))
        self.assertEqual(place_of((TAKE,) + (USE,) * 7), (0,))

    def test_an_item_that_is_none_is_told_ahead_of_locks(self):
        self.assertEqual(place_of((GIVE, None)), (1,))

    def test_takes_and_gives(self):
        self.assertEqual(place_of((TAKE, GIVE)), ())
        self.assertEqual(place_of((TAKE, USE, GIVE, TAKE, GIVE)), ())
        self.assertEqual(place_of((TAKE, TAKE_K, GIVE_K, GIVE)), ())
        self.assertEqual(place_of((TAKE, TAKE_K, GIVE_K, TAKE_K, GIVE_K, GIVE)), ())

    def test_a_take_without_a_give(self):
        self.assertEqual(place_of((USE, TAKE)), (1,))
        self.assertEqual(place_of((TAKE, GIVE, TAKE)), (2,))
        self.assertEqual(place_of((TAKE, GIVE_K)), (0,))
        self.assertEqual(place_of((TAKE, ("choose", (GIVE,), ()))), (0,))
        self.assertEqual(place_of((("choose", (TAKE,), (GIVE,)),)), (1,))
        self.assertEqual(place_of((("choose", (TAKE,), ()), GIVE)), (1,))
        self.assertEqual(place_of((GIVE, TAKE)), (0,))

    def test_a_take_of_a_lock_that_is_held(self):
        self.assertEqual(place_of((TAKE, TAKE, GIVE, GIVE)), (1,))
        self.assertEqual(place_of((TAKE, TAKE_K, TAKE, GIVE, GIVE_K, GIVE)), (2,))
        self.assertEqual(place_of((TAKE, ("choose", (USE, TAKE, GIVE), ()), GIVE)), (3,))
        self.assertEqual(place_of((TAKE, ("choose", (TAKE_K, ("choose", (), (TAKE, GIVE)), GIVE_K), ()), GIVE)), (4,))
        self.assertEqual(place_of((TAKE, GIVE, ("choose", (TAKE, GIVE), (TAKE, GIVE)))), ())

    def test_a_give_of_another_lock(self):
        self.assertEqual(place_of((TAKE, TAKE_K, GIVE, GIVE_K)), (2,))
        self.assertEqual(place_of((TAKE, GIVE, GIVE)), (2,))
        self.assertEqual(place_of((GIVE,)), (0,))
        self.assertEqual(place_of((TAKE, ("choose", (), (GIVE,)), GIVE)), (2,))
        self.assertEqual(place_of((TAKE, GIVE_K, GIVE)), (1,))
        self.assertEqual(place_of((TAKE, GIVE, ("choose", (USE,), (GIVE,)))), (4,))

    def test_a_piece_with_a_lock_that_is_held(self):
        piece = ("piece", "l", (USE,))
        self.assertEqual(place_of((TAKE, piece, GIVE)), (1,))
        self.assertEqual(place_of((TAKE, ("choose", (), (USE, piece)), GIVE)), (3,))
        self.assertEqual(place_of((TAKE_K, piece, GIVE_K)), ())
        self.assertEqual(place_of((piece, TAKE, GIVE, piece)), ())

    def test_the_first_wrong_lock_is_told(self):
        self.assertEqual(place_of((("choose", (USE, GIVE), (TAKE,)), GIVE_K)), (2,))
        self.assertEqual(place_of((TAKE, ("choose", (TAKE,), ()), TAKE, GIVE)), (2,))

    def test_any_value(self):
        for value in strange_values():
            self.assertNotEqual(place_of(value), ())
            self.assertEqual(place_of((USE, value)), (1,))
            self.assertEqual(place_of((USE, ("choose", (), (value,)))), (2,))


class TestBody(unittest.TestCase):
    def test_example_of_the_document(self):
        body = Body((('test', 'on', (('take', 'l'), ('start', 'v'), ('give', 'l')), ()), ('use',)))
        told = (body.size, body.nexts(0), body.nexts(3), body.held(2), body.works())
        self.assertEqual(told, (5, (1, 4), (4,), ('l',), ['v']))

    def test_code_size_len(self):
        items = (USE, ("choose", (USE,), (("piece", "l", (USE, USE)), USE)))
        body = Body(items)
        self.assertEqual(body.code, items)
        self.assertIs(type(body.code), tuple)
        self.assertEqual((body.size, len(body)), (5, 5))
        self.assertEqual((Body((USE,)).size, len(Body((USE,) * 8))), (1, 8))

    def test_code_and_size_do_not_change(self):
        body = Body((USE,))
        with self.assertRaises(AttributeError):
            body.code = (USE, USE)
        with self.assertRaises(AttributeError):
            body.size = 3

    def test_item(self):
        within = ("choose", (("test", "f", (), (TAKE, GIVE)),), (("start", "w"),))
        body = Body((USE, within, ("set", "f")))
        self.assertEqual([body.item(place) for place in range(7)],
                         [USE, within, within[1][0], TAKE, GIVE, ("start", "w"), ("set", "f")])
        self.assertEqual(body.item(place=2), within[1][0])

    def test_nexts(self):
        within = ("choose", (("test", "f", (), (USE, USE)),), (("start", "w"),))
        body = Body((USE, within, ("test", "f", (), ())))
        self.assertEqual([body.nexts(place) for place in range(7)],
                         [(1,), (2, 5), (6, 3), (4,), (6,), (6,), (7, 7)])
        self.assertEqual(body.nexts(place=1), (2, 5))

    def test_nexts_behind_the_last_item_of_a_tuple(self):
        body = Body((("test", "f", (("choose", (), (USE,)),), (USE,)),))
        self.assertEqual([body.nexts(place) for place in range(4)], [(1, 3), (4, 2), (4,), (4,)])
        deep = Body((nested(3, "test", (USE,)), USE))
        self.assertEqual([deep.nexts(place) for place in range(5)], [(1, 4), (2, 4), (3, 4), (4,), (5,)])
        self.assertEqual(Body((USE,)).nexts(0), (1,))

    def test_nexts_of_pieces(self):
        body = Body((("piece", "l", (("test", "f", (USE,), ()), USE)), USE))
        self.assertEqual((body.nexts(0), body.nexts(1), body.size), ((1,), (2,), 2))

    def test_held(self):
        body = Body((TAKE, ("choose", (TAKE_K, USE, GIVE_K), ()), USE, GIVE, USE))
        self.assertEqual([body.held(place) for place in range(9)],
                         [(), ("l",), ("l",), ("l", "k"), ("l", "k"), ("l",), ("l",), (), ()])
        self.assertEqual(body.held(place=4), ("l", "k"))

    def test_held_at_the_end(self):
        self.assertEqual(Body((TAKE, GIVE)).held(2), ())
        self.assertEqual(Body((USE,)).held(1), ())
        self.assertEqual([Body((TAKE, GIVE)).held(place) for place in (0, 1)], [(), ("l",)])

    def test_held_in_the_order_of_the_takes(self):
        self.assertEqual(Body((TAKE_K, TAKE, GIVE, GIVE_K)).held(2), ("k", "l"))
        self.assertEqual(Body((TAKE, TAKE_K, GIVE_K, GIVE)).held(2), ("l", "k"))

    def test_values_that_are_no_place(self):
        body = Body((USE, TAKE, GIVE))
        for value in strange_values() + [4, 10 ** 50, "1", (1,), [1]]:
            for call in (body.item, body.nexts, body.held):
                with self.assertRaises(InvalidNumber) as caught:
                    call(value)
                self.assertIs(caught.exception.value, value)

    def test_the_end_is_a_place_for_held_only(self):
        body = Body((USE, TAKE, GIVE))
        for call in (body.item, body.nexts):
            with self.assertRaises(InvalidNumber) as caught:
                call(3)
            self.assertEqual(caught.exception.value, 3)
        self.assertEqual(body.held(3), ())

    def test_names(self):
        inner = (("test", "e", (("start", "b"),), ()), USE)
        body = Body((("set", "h"), ("clear", "g"), TAKE, GIVE, ("cancel", "z"),
                     ("test", "f", (("piece", "a", inner),), (("start", "c"),))))
        self.assertEqual(body.flags(), ["e", "f", "g", "h"])
        self.assertEqual(body.locks(), ["a", "l"])
        self.assertEqual(body.works(), ["b", "c", "z"])
        self.assertEqual((Body((USE,)).flags(), Body((USE,)).locks(), Body((USE,)).works()), ([], [], []))

    def test_names_are_told_once(self):
        body = Body((TAKE, GIVE, TAKE, GIVE, ("set", "f"), ("clear", "f"), ("start", "w"), ("cancel", "w")))
        self.assertEqual((body.flags(), body.locks(), body.works()), (["f"], ["l"], ["w"]))

    def test_lists_are_new_ones(self):
        body = Body((("set", "f"), ("start", "w"), TAKE, GIVE))
        for call in (body.flags, body.locks, body.works):
            told = call()
            call().append("x")
            self.assertEqual(call(), told)

    def test_equal(self):
        self.assertTrue(Body((USE,)) == Body((USE,)))
        self.assertFalse(Body((USE,)) != Body((USE,)))
        self.assertFalse(Body((USE,)) == Body((USE, USE)))
        self.assertTrue(Body((USE,)) != Body((("start", "w"),)))

    def test_equal_to_no_value_of_another_class(self):
        class Other(Body):
            pass

        body = Body((USE,))
        for value in strange_values() + [(USE,), Work("w", (USE,)), Guest("w", "g", (USE,)), Crowd("w", "g", (USE,)),
                                         Other((USE,)), namesake(body)]:
            self.assertFalse(body == value)
            self.assertTrue(body != value)
            if not isinstance(value, EqualToAll):
                self.assertFalse(value == body)


class TestOrder(unittest.TestCase):
    def test_generator(self):
        self.assertTrue(inspect.isgeneratorfunction(order))

    def test_order(self):
        piece = ("piece", "l", (("test", "f", (USE,), ()),))
        within = ("choose", (("test", "f", (), (TAKE, GIVE)),), (piece,))
        items = (USE, within, ("set", "f"))
        self.assertEqual(list(order(items)), [USE, within, within[1][0], TAKE, GIVE, piece, ("set", "f")])
        self.assertEqual(list(order(items=(USE,))), [USE])

    def test_like_item(self):
        items = (nested(3, "choose", (USE, ("set", "f"))), USE)
        body = Body(items)
        self.assertEqual(list(order(items)), [body.item(place) for place in range(body.size)])


class TestAgainstTheReference(unittest.TestCase):
    def test_many_bodies(self):
        made = wrong = 0
        for items in some_bodies(7, 6000):
            laid = laid_out(items)
            place = first_wrong(laid)
            self.assertEqual(is_body(items), place is None)
            if place is not None:
                wrong += 1
                self.assertEqual(place_of(items), (place,), items)
                continue
            made += 1
            body = Body(items)
            self.assertEqual(list(order(items)), [item for item, _ in laid])
            self.assertEqual([body.nexts(at) for at in range(body.size)],
                             [next_places(laid, at) for at in range(len(laid))], items)
            self.assertEqual([body.held(at) for at in range(body.size + 1)],
                             [locks_held(laid, at) for at in range(len(laid))] + [()], items)
        self.assertGreater(made, 500)
        self.assertGreater(wrong, 500)


if __name__ == "__main__":
    unittest.main()

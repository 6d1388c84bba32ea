import unittest

from takendown.devices import Device
from takendown.errors import InvalidDevice, InvalidItem, NotACrowd, UnknownName
from takendown.threads import Crowd, Guest, Work
from values import EqualToAll, namesake, strange_values

USE = ("use",)
BODY = (USE,)
PIECE = ("piece", "l", (USE,))


def fault_of(*parts, **named):
    """Return what the error tells with which a device is not made, or None."""
    try:
        Device(*parts, **named)
    except InvalidDevice as error:
        return (error.part, error.name)
    except NotACrowd as error:
        return (NotACrowd, error.name, error.place)
    return None


def cause_of(*parts, **named):
    """Return the cause of the error with which a device is not made."""
    try:
        Device(*parts, **named)
    except InvalidDevice as error:
        return error.__cause__
    return "made"


def flags_of(*names):
    return tuple([("set", name) for name in names])


def locks_of(*names):
    return tuple([("take", name) for name in names] + [("give", name) for name in reversed(names)])


def starts_of(*names):
    return tuple([("start", name) for name in names])


class TestWorksOfADevice(unittest.TestCase):
    def test_none_at_all(self):
        for works in ({}, None, (), [("w", BODY)], "w", {name: BODY for name in "abcde"}, Work("w", BODY)):
            self.assertEqual(fault_of(works), ("works", None))
            self.assertIsNone(cause_of(works))
        self.assertIsNone(fault_of({"a": BODY}))
        self.assertIsNone(fault_of({name: BODY for name in "abcd"}))

    def test_a_key_that_is_no_name(self):
        for key in (None, "W", "", "abcdefghi", 5, True, ("w",), b"w"):
            self.assertEqual(fault_of({"w": BODY, key: BODY}), ("works", None))
            self.assertEqual(fault_of({key: 5, "a": 5}), ("works", None))

    def test_a_body_that_is_none(self):
        for body in ((), [USE], None, "use", (USE, 5), (USE,) * 9, (("give", "l"),), Work("w", BODY)):
            self.assertEqual(fault_of({"w": BODY, "v": body}), ("works", "v"))
        self.assertEqual(fault_of({"c": (), "b": (), "d": BODY}), ("works", "b"))

    def test_a_piece(self):
        self.assertEqual(fault_of({"w": BODY, "v": (USE, PIECE)}), ("works", "v"))
        self.assertEqual(fault_of({"w": (), "v": (PIECE,)}), ("works", "v"))

    def test_cause(self):
        for body, place in (((), None), ((USE, 5), 1), ((USE,) * 9, None), ((USE, ("give", "l")), 1), ((USE, PIECE), 1)):
            cause = cause_of({"w": BODY, "v": body})
            self.assertIsInstance(cause, InvalidItem)
            self.assertEqual(cause.place, place)


class TestGuestsOfADevice(unittest.TestCase):
    def test_none(self):
        self.assertIsNone(fault_of({"w": BODY}, None, None))
        self.assertIsNone(fault_of({"w": BODY}, {}, {}))

    def test_none_at_all(self):
        for entries in ((), [], "v", 5, False, True, {name: ("g", BODY) for name in "abc"}, {("v", "g"), BODY}):
            self.assertEqual(fault_of({"w": BODY}, entries), ("guests", None))
            self.assertEqual(fault_of({"w": BODY}, None, entries), ("crowds", None))
        self.assertIsNone(fault_of({"w": BODY}, {"a": ("g", BODY), "b": ("g", BODY)}))
        self.assertIsNone(fault_of({"w": BODY}, None, {"a": ("g", BODY), "b": ("g", BODY)}))

    def test_a_key_that_is_no_name(self):
        for key in (None, "V", "", 5, ("v",)):
            self.assertEqual(fault_of({"w": BODY}, {"a": 5, key: ("g", BODY)}), ("guests", None))
            self.assertEqual(fault_of({"w": BODY}, None, {"a": 5, key: ("g", BODY)}), ("crowds", None))

    def test_a_tuple_that_is_none(self):
        for pair in (None, (), ("g",), ("g", BODY, BODY), ["g", BODY], ("G", BODY), (None, BODY), BODY, "gb", {"g": BODY},
                     (EqualToAll(), BODY), ("", BODY), (BODY, "g")):
            self.assertEqual(fault_of({"w": BODY}, {"a": ("g", BODY), "b": pair}), ("guests", "b"))
            self.assertEqual(fault_of({"w": BODY}, None, {"a": ("g", BODY), "b": pair}), ("crowds", "b"))
            self.assertIsNone(cause_of({"w": BODY}, {"b": pair}))

    def test_a_name_that_another_thread_has(self):
        self.assertEqual(fault_of({"w": BODY}, {"w": ("g", BODY)}), ("guests", "w"))
        self.assertEqual(fault_of({"w": BODY}, None, {"w": ("g", BODY)}), ("crowds", "w"))
        self.assertEqual(fault_of({"w": BODY}, {"v": ("g", BODY)}, {"v": ("g", BODY)}), ("crowds", "v"))
        self.assertIsNone(fault_of({"w": BODY}, {"v": ("w", BODY)}, {"c": ("w", BODY)}))

    def test_a_body_that_is_none(self):
        for body in ((), [USE], None, (USE, 5), (USE,) * 9, (("give", "l"),)):
            for parts in (({"w": BODY}, {"a": ("g", BODY), "b": ("g", body)}),
                          ({"w": BODY}, None, {"a": ("g", BODY), "b": ("g", body)})):
                self.assertEqual(fault_of(*parts), ("guests" if len(parts) == 2 else "crowds", "b"))
                self.assertIsInstance(cause_of(*parts), InvalidItem)
        self.assertEqual(fault_of({"w": BODY}, {"b": ("g", ()), "a": ("G", BODY)}), ("guests", "a"))
        self.assertEqual(cause_of({"w": BODY}, {"b": ("g", (USE, ("give", "l")))}).place, 1)

    def test_a_piece(self):
        self.assertEqual(fault_of({"w": BODY}, {"a": ("g", (USE, PIECE))}), ("guests", "a"))
        self.assertEqual(cause_of({"w": BODY}, {"a": ("g", (USE, PIECE))}).place, 1)
        self.assertIsNone(fault_of({"w": BODY}, None, {"a": ("g", (USE, PIECE))}))

    def test_the_cause_where_more_than_a_body_is_wrong(self):
        self.assertIsNone(cause_of({"w": BODY}, {"w": ("g", ())}))
        self.assertIsNone(cause_of({"w": BODY}, {"v": ("G", ())}))
        self.assertIsNone(cause_of({"w": BODY}, None, {"w": ("g", ())}))


class TestCrowdsOfADevice(unittest.TestCase):
    def test_not_a_crowd(self):
        self.assertEqual(fault_of({"w": BODY}, None, {"c": ("g", (USE, ("set", "f")))}), (NotACrowd, "c", 1))
        self.assertEqual(fault_of({"w": BODY}, None, {"c": ("g", flags_of("f")), "b": ("g", locks_of("l"))}),
                         (NotACrowd, "b", 0))

    def test_the_first_crowd_that_is_wrong(self):
        wrong, none = ("g", flags_of("f")), ("g", ())
        self.assertEqual(fault_of({"w": BODY}, None, {"a": wrong, "b": none}), (NotACrowd, "a", 0))
        self.assertEqual(fault_of({"w": BODY}, None, {"a": none, "b": wrong}), ("crowds", "a"))

    def test_a_name_or_tuple_that_is_wrong_is_told_ahead_of_its_items(self):
        self.assertEqual(fault_of({"w": BODY}, None, {"w": ("g", flags_of("f"))}), ("crowds", "w"))
        self.assertEqual(fault_of({"w": BODY}, None, {"c": ("G", flags_of("f"))}), ("crowds", "c"))

    def test_a_body_that_is_none_is_told_ahead_of_its_items(self):
        self.assertEqual(fault_of({"w": BODY}, None, {"c": ("g", (("set", "f"), ("take", "l")))}), ("crowds", "c"))


class TestWorksThatAreNamed(unittest.TestCase):
    def test_started_or_cancelled_and_none(self):
        self.assertEqual(fault_of({"w": starts_of("v")}), ("works", "v"))
        self.assertEqual(fault_of({"w": (("cancel", "u"),)}), ("works", "u"))
        self.assertIsNone(fault_of({"w": starts_of("v", "w"), "v": (("cancel", "w"),)}))
        self.assertIsNone(cause_of({"w": starts_of("v")}))

    def test_anywhere(self):
        self.assertEqual(fault_of({"w": BODY}, {"v": ("g", starts_of("x"))}), ("works", "x"))
        piece = ("piece", "l", (("test", "f", (), (("start", "y"),)),))
        self.assertEqual(fault_of({"w": BODY}, None, {"c": ("g", (("choose", (piece,), ()),))}), ("works", "y"))
        self.assertIsNone(fault_of({"y": BODY}, None, {"c": ("g", (("choose", (piece,), ()),))}))

    def test_the_first_name(self):
        self.assertEqual(fault_of({"w": starts_of("z"), "a": starts_of("y")}, None, {"c": ("g", starts_of("x"))}),
                         ("works", "x"))
        self.assertEqual(fault_of({"w": starts_of(*"hgfedcba")}), ("works", "a"))
        self.assertEqual(fault_of({"w": starts_of(*"jihgfedw"), "b": starts_of("z")}), ("works", "d"))

    def test_guests_and_crowds_are_no_works(self):
        self.assertEqual(fault_of({"w": starts_of("v")}, {"v": ("g", BODY)}), ("works", "v"))
        self.assertEqual(fault_of({"w": BODY}, None, {"c": ("g", starts_of("c"))}), ("works", "c"))


class TestArmedFlagsLocks(unittest.TestCase):
    def test_armed(self):
        works = {"w": BODY, "v": BODY}
        for armed in (["w"], "w", ("w", "w"), ("x",), ("w", None), None, ("w", ["v"]), {"w"}, (True,), ("c",)):
            self.assertEqual(fault_of(works, None, {"c": ("g", BODY)}, armed=armed), ("armed", None))
        for armed in ((), ("w",), ("w", "v")):
            self.assertIsNone(fault_of(works, armed=armed))

    def test_flags(self):
        works = {"w": (("set", "f"), ("test", "g", (("clear", "h"),), ()))}
        for flags in (["f"], "f", ("f", "f"), ("e",), ("f", None), None, ("f", ["g"]), {"f"}, ("w",)):
            self.assertEqual(fault_of(works, flags=flags), ("flags", None))
        for flags in ((), ("f",), ("h", "g", "f")):
            self.assertIsNone(fault_of(works, flags=flags))

    def test_flags_in_pieces(self):
        piece = ("piece", "l", (("test", "f", (), ()),))
        self.assertEqual(Device({"w": BODY}, None, {"c": ("g", (piece,))}, flags=("f",)).flagged, ("f",))

    def test_any_value(self):
        for value in strange_values():
            if value != ():
                self.assertEqual(fault_of({"w": flags_of("f")}, armed=value), ("armed", None))
                self.assertEqual(fault_of({"w": flags_of("f")}, flags=value), ("flags", None))
            self.assertEqual(fault_of({"w": flags_of("f")}, armed=("w", value)), ("armed", None))
            self.assertEqual(fault_of({"w": flags_of("f")}, flags=("f", value)), ("flags", None))

    def test_four_flags_and_five(self):
        self.assertIsNone(fault_of({"w": flags_of("a", "b"), "v": flags_of("c", "d", "a")}))
        self.assertEqual(fault_of({"w": flags_of("a", "b"), "v": flags_of("c", "d", "e")}), ("flags", None))
        piece = ("piece", "l", (("test", "e", (), ()),))
        self.assertEqual(fault_of({"w": flags_of("a", "b", "c", "d")}, None, {"c": ("g", (piece,))}), ("flags", None))

    def test_three_locks_and_four(self):
        self.assertIsNone(fault_of({"w": locks_of("a", "b", "c")}, {"v": ("g", locks_of("b"))}))
        self.assertEqual(fault_of({"w": locks_of("a", "b", "c")}, {"v": ("g", locks_of("d"))}), ("locks", None))
        crowd = {"c": ("g", (("piece", "d", (USE,)),))}
        self.assertEqual(fault_of({"w": locks_of("a", "b", "c")}, None, crowd), ("locks", None))
        self.assertIsNone(fault_of({"w": locks_of("a", "b")}, None, crowd))

    def test_threads_flags_locks_and_gates_may_be_called_alike(self):
        device = Device({"a": flags_of("a") + locks_of("a")}, {"b": ("a", BODY)}, armed=("a",), flags=("a",))
        self.assertEqual((device.flags(), device.locks(), device.gates(), device.works()), (["a"], ["a"], ["a"], ["a"]))


class TestWhichErrorComesFirst(unittest.TestCase):
    def test_in_the_order_of_the_document(self):
        good = {"w": BODY}
        many_flags = {"w": flags_of("a", "b", "c", "d", "e")}
        many_locks = {"w": locks_of("a", "b"), "v": locks_of("c", "d")}
        crowd, unlike = {"c": ("g", flags_of("f"))}, {"w": starts_of("x")}
        for told, call in (
                (("works", None), ({}, (), (), None, None)),
                (("works", "w"), ({"w": ()}, (), (), None, None)),
                (("guests", None), (unlike, (), (), None, None)),
                (("guests", "v"), (unlike, {"v": ()}, (), None, None)),
                (("crowds", None), (unlike, None, (), None, None)),
                (("crowds", "c"), (unlike, None, {"c": ()}, None, None)),
                ((NotACrowd, "c", 0), (unlike, None, crowd, None, None)),
                (("works", "x"), (unlike, None, None, None, None)),
                (("armed", None), (many_flags, None, None, None, None)),
                (("armed", None), (many_flags, None, None, ("x",), ())),
                (("flags", None), (many_locks, None, None, (), None)),
                (("flags", None), (many_flags, None, None, (), ())),
                (("locks", None), (many_locks, None, None, (), ()))):
            works, guests, crowds, armed, flags = call
            self.assertEqual(fault_of(works, guests, crowds, armed=armed, flags=flags), told)
        self.assertIsNone(fault_of(good))

    def test_armed_and_flags_by_name_only(self):
        with self.assertRaises(TypeError):
            Device({"w": BODY}, None, None, ("w",))
        made = Device(flags=(), armed=("w",), crowds=None, guests=None, works={"w": BODY})
        self.assertEqual(made, Device({"w": BODY}, armed=("w",)))


def sample():
    """Return a device with each kind of thread."""
    return Device(
        {"w": starts_of("w", "v") + flags_of("on"), "v": locks_of("m") + (("cancel", "w"),)},
        {"z": ("port", starts_of("v")), "b": ("door", BODY)},
        {"y": ("door", (("piece", "k", starts_of("w")),)), "a": ("hatch", (("test", "up", (), ()),))},
        armed=("w", "v"), flags=("up", "on"))


class TestDevice(unittest.TestCase):
    def test_example_of_the_document(self):
        device = Device({'w': (('use',), ('start', 'w'))}, crowds={'c': ('door', (('start', 'w'),))}, armed=('w',))
        told = (device.works(), device.gates(), device.starters('w'), device['c'].gate, 'w' in device)
        self.assertEqual(told, (['w'], ['door'], ['c', 'w'], 'door', True))

    def test_lists(self):
        device = sample()
        self.assertEqual(device.works(), ["v", "w"])
        self.assertEqual(device.guests(), ["b", "z"])
        self.assertEqual(device.crowds(), ["a", "y"])
        self.assertEqual(device.threads(), ["a", "b", "v", "w", "y", "z"])
        self.assertEqual(device.flags(), ["on", "up"])
        self.assertEqual(device.locks(), ["k", "m"])
        self.assertEqual(device.gates(), ["door", "hatch", "port"])

    def test_lists_are_ascending(self):
        device = Device({"d": flags_of("w", "v", "x"), "c": flags_of("u"), "b": locks_of("z", "x", "y"), "a": BODY},
                        {"g": ("r", BODY), "e": ("s", BODY)}, {"h": ("p", BODY), "f": ("q", BODY)})
        self.assertEqual((device.flags(), device.locks()), (["u", "v", "w", "x"], ["x", "y", "z"]))
        self.assertEqual((device.gates(), device.threads()), (["p", "q", "r", "s"], list("abcdefgh")))

    def test_lists_of_a_bare_device(self):
        device = Device({"w": BODY})
        self.assertEqual((device.works(), device.threads(), len(device)), (["w"], ["w"], 1))
        self.assertEqual([device.guests(), device.crowds(), device.flags(), device.locks(), device.gates()], [[]] * 5)
        self.assertEqual((device.armed, device.flagged, device.starters("w")), ((), (), []))

    def test_lists_are_new_ones(self):
        device = sample()
        for call in (device.works, device.guests, device.crowds, device.threads, device.flags, device.locks,
                     device.gates):
            told = call()
            call().append("x")
            call().clear()
            self.assertEqual(call(), told)
        for call, name in ((device.users_of, "door"), (device.starters, "w")):
            told = call(name)
            call(name).append("x")
            self.assertEqual(call(name), told)
        self.assertEqual(device, sample())

    def test_armed_and_flagged(self):
        device = sample()
        self.assertEqual((device.armed, device.flagged), (("v", "w"), ("on", "up")))
        with self.assertRaises(AttributeError):
            device.armed = ()
        with self.assertRaises(AttributeError):
            device.flagged = ()

    def test_threads(self):
        device = sample()
        self.assertEqual(device["v"], Work("v", locks_of("m") + (("cancel", "w"),)))
        self.assertEqual(device["b"], Guest("b", "door", BODY))
        self.assertEqual(device["a"], Crowd("a", "hatch", (("test", "up", (), ()),)))
        self.assertEqual((device["z"].kind(), device["z"].gate, device["z"].label), ("guest", "port", "z"))

    def test_no_thread(self):
        device = sample()
        for value in strange_values() + ["x", "door", "up", "k", 0]:
            with self.assertRaises(UnknownName) as caught:
                device[value]
            self.assertIs(caught.exception.name, value)
            self.assertIs(value in device, False)

    def test_in_and_len(self):
        device = sample()
        self.assertEqual([name in device for name in ("v", "b", "y")], [True, True, True])
        self.assertEqual(len(device), 6)

    def test_users_of(self):
        device = sample()
        self.assertEqual(device.users_of("door"), ["b", "y"])
        self.assertEqual(device.users_of(gate="port"), ["z"])
        both = Device({"w": BODY}, {"z": ("g", BODY), "b": ("h", BODY)}, {"a": ("g", BODY), "c": ("g", BODY)})
        self.assertEqual((both.users_of("g"), both.users_of("h")), (["a", "c", "z"], ["b"]))
        for value in strange_values() + ["w", "b", "up", "gate"]:
            with self.assertRaises(UnknownName) as caught:
                device.users_of(value)
            self.assertIs(caught.exception.name, value)

    def test_starters(self):
        device = sample()
        self.assertEqual(device.starters("v"), ["w", "z"])
        self.assertEqual(device.starters(work="w"), ["w", "y"])
        for value in strange_values() + ["a", "b", "door", "x"]:
            with self.assertRaises(UnknownName) as caught:
                device.starters(value)
            self.assertIs(caught.exception.name, value)

    def test_starters_anywhere(self):
        inner = (("test", "f", (("choose", (), starts_of("v")),), ()),)
        device = Device({"v": BODY, "w": inner, "u": (("cancel", "v"),)}, {"a": ("g", inner)})
        self.assertEqual((device.starters("v"), device.starters("u")), (["a", "w"], []))

    def test_dicts_that_are_changed_behind_the_call(self):
        works, guests, crowds = {"w": BODY}, {"v": ("g", BODY)}, {"c": ("d", BODY)}
        device = Device(works, guests, crowds)
        works["x"] = guests["y"] = ()
        works["w"] = (USE, USE)
        crowds.clear()
        self.assertEqual(device, Device({"w": BODY}, {"v": ("g", BODY)}, {"c": ("d", BODY)}))
        self.assertEqual((device.threads(), len(device), device["w"].size), (["c", "v", "w"], 3, 1))

    def test_what_is_passed_is_not_changed(self):
        works, guests, crowds = {"w": BODY, "a": BODY}, {"v": ("g", BODY)}, {"c": ("d", BODY)}
        Device(works, guests, crowds, armed=("w", "a"))
        self.assertEqual((list(works.items()), guests, crowds),
                         ([("w", BODY), ("a", BODY)], {"v": ("g", BODY)}, {"c": ("d", BODY)}))

    def test_not_iterated_over(self):
        with self.assertRaises(TypeError):
            list(sample())


class TestEqualDevices(unittest.TestCase):
    def test_equal(self):
        self.assertTrue(sample() == sample())
        self.assertFalse(sample() != sample())

    def test_orders_do_not_count(self):
        one = Device({"a": flags_of("f", "g"), "b": BODY}, {"c": ("g", BODY), "d": ("h", BODY)}, armed=("a", "b"),
                     flags=("f", "g"))
        other = Device({"b": BODY, "a": flags_of("f", "g")}, {"d": ("h", BODY), "c": ("g", BODY)}, {}, armed=("b", "a"),
                       flags=("g", "f"))
        self.assertEqual(one, other)

    def test_each_part_counts(self):
        items = flags_of("f")
        devices = [
            Device({"w": items}), Device({"v": items}), Device({"w": items + items}), Device({"w": items, "v": items}),
            Device({"w": items}, armed=("w",)), Device({"w": items}, flags=("f",)),
            Device({"w": items}, {"v": ("g", BODY)}), Device({"w": items}, {"v": ("h", BODY)}),
            Device({"w": items}, {"u": ("g", BODY)}), Device({"w": items}, None, {"v": ("g", BODY)}),
            Device({"w": items}, None, {"v": ("g", BODY + BODY)}),
        ]
        for at, one in enumerate(devices):
            for index, other in enumerate(devices):
                self.assertEqual(one == other, at == index)
                self.assertEqual(one != other, at != index)

    def test_equal_to_no_value_of_another_class(self):
        class Other(Device):
            pass

        device = Device({"w": BODY})
        for value in strange_values() + [Work("w", BODY), {"w": BODY}, Other({"w": BODY}), namesake(device)]:
            self.assertFalse(device == value)
            if not isinstance(value, EqualToAll):
                self.assertFalse(value == device)


if __name__ == "__main__":
    unittest.main()

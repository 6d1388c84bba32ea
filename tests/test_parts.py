import itertools
import random
import unittest

from draws import DEVICE, USE, careful_row, drawn_device, drawn_row
from slow_rows import slow_word
from takendown.devices import Device
from takendown.errors import DownError, InvalidDevice, InvalidStep
from takendown.parts import joined, merges
from takendown.rows import Row
from takendown.verdicts import is_right

HALT, CLOSE, BAR, SET = ("halt", "w"), ("close", "d"), ("bar", "v"), ("set", "f")
TAKE, GIVE = ("take", "l"), ("give", "l")
LEFT = Device({"v": (("take", "k"), ("set", "e"), ("give", "k"))}, {"g": ("a", (USE,))}, {"c": ("b", (("start", "v"),))},
              armed=("v",), flags=("e",))
RIGHT = Device({"w": (("test", "f", (TAKE, GIVE), ()),)}, {"h": ("d", (USE,))}, {"i": ("d", (("piece", "m", (USE,)),))},
               flags=("f",))


def renamed(value):
    """Return items, steps or a name with all names changed to names that no drawn device has."""
    if isinstance(value, tuple) and value and isinstance(value[0], str):
        return value[:1] + tuple(renamed(one) if isinstance(one, tuple) else "z" + one for one in value[1:])
    return tuple(map(renamed, value)) if isinstance(value, tuple) else "z" + value


def renamed_device(device):
    gated = [{"z" + name: ("z" + device[name].gate, renamed(device[name].code)) for name in names}
             for names in (device.guests(), device.crowds())]
    return Device({"z" + name: renamed(device[name].code) for name in device.works()}, *gated,
                  armed=tuple("z" + name for name in device.armed), flags=tuple("z" + name for name in device.flagged))


class TestJoined(unittest.TestCase):
    def test_all_of_both(self):
        for one, other in ((LEFT, RIGHT), (RIGHT, LEFT)):
            told = joined(one, other)
            self.assertIsInstance(told, Device)
            self.assertEqual((told.works(), told.guests(), told.crowds()), (["v", "w"], ["g", "h"], ["c", "i"]))
            self.assertEqual((told.flags(), told.locks(), told.gates()), (["e", "f"], ["k", "l", "m"], ["a", "b", "d"]))
            self.assertEqual((told.armed, told.flagged), (("v",), ("e", "f")))
            for device in (LEFT, RIGHT):
                for name in device.threads():
                    self.assertEqual(told[name], device[name])
        self.assertEqual(joined(device=LEFT, other=RIGHT), joined(RIGHT, LEFT))

    def test_armed_and_flags_of_both(self):
        one = Device({"v": (("set", "f"),), "w": (USE,)}, armed=("w",), flags=("f",))
        other = Device({"a": (("set", "b"),), "z": (USE,)}, armed=("a", "z"), flags=("b",))
        told = joined(one, other)
        self.assertEqual((told.armed, told.flagged), (("a", "w", "z"), ("b", "f")))
        other = Device({"a": (("set", "b"),)})
        self.assertEqual((joined(one, other).armed, joined(one, other).flagged), (("w",), ("f",)))

    def test_common_names(self):
        uses = {"work": Device({"x": (USE,)}), "guest": Device({"p": (USE,)}, {"x": ("q", (USE,))}),
                "crowd": Device({"p": (USE,)}, None, {"x": ("q", (USE,))}), "gate": Device({"p": (USE,)}, {"q": ("x", (USE,))}),
                "flag": Device({"p": (("clear", "x"),)}), "lock": Device({"p": (("take", "x"), ("give", "x"))}),
                "tested": Device({"p": (("test", "x", (), ()),)}),
                "piece": Device({"p": (USE,)}, None, {"r": ("q", (("piece", "x", (USE,)),))})}
        for one, other in itertools.product(uses.values(), repeat=2):
            other = renamed_device(other)
            joined(one, other)
            with self.assertRaises(InvalidDevice) as caught:
                joined(one, Device({"zp": other["zp"].code} if "zp" in other else {"zx": (USE,)},
                                   {"y": ("x", (USE,))}))
            self.assertEqual((caught.exception.part, caught.exception.name), ("parts", "x"))
        for one, other in itertools.product(uses.values(), repeat=2):
            with self.assertRaises(InvalidDevice) as caught:
                joined(one, other)
            first = min(set(names_of(one)) & set(names_of(other)))
            self.assertEqual((caught.exception.part, caught.exception.name), ("parts", first))

    def test_too_many(self):
        def device(letters, guests=0, crowds=0, flags=0, locks=0, works=1):
            first = tuple(("set", letters + "f" + "abcd"[at]) for at in range(flags))
            held = tuple((word, letters + "l" + "abcd"[at]) for at in range(locks) for word in ("take", "give"))
            return Device({letters + "w" + "abcd"[at]: first + held + (USE,) for at in range(works)},
                          {letters + "g" + "ab"[at]: (letters + "d", (USE,)) for at in range(guests)},
                          {letters + "c" + "ab"[at]: (letters + "d", (USE,)) for at in range(crowds)})

        for part, one, other in (("works", {"works": 2}, {"works": 3}), ("guests", {"guests": 2}, {"guests": 1}),
                                 ("crowds", {"crowds": 1}, {"crowds": 2}), ("flags", {"flags": 2}, {"flags": 3}),
                                 ("locks", {"locks": 2}, {"locks": 2})):
            with self.assertRaises(InvalidDevice) as caught:
                joined(device("a", **one), device("b", **other))
            self.assertEqual((caught.exception.part, caught.exception.name), (part, None))
        told = joined(device("a", 1, 1, 2, 1, 2), device("b", 1, 1, 2, 2, 2))
        self.assertEqual((len(told), len(told.flags()), len(told.locks())), (8, 4, 3))
        # A common name is told first.
        with self.assertRaises(InvalidDevice) as caught:
            joined(device("a", works=3), device("a", works=3))
        self.assertEqual((caught.exception.part, caught.exception.name), ("parts", "awa"))

    def test_both_stay_as_they_are(self):
        before = LEFT["v"].code, LEFT.armed, len(LEFT)
        joined(LEFT, RIGHT)
        self.assertEqual((LEFT["v"].code, LEFT.armed, len(LEFT)), before)


def names_of(device):
    return device.threads() + device.flags() + device.locks() + device.gates()


class TestMerges(unittest.TestCase):
    def steps(self, row, other):
        return [one.steps() for one in merges(row, other)]

    def test_order(self):
        self.assertEqual(self.steps(Row(HALT, CLOSE), Row(BAR)), [[HALT, CLOSE, BAR], [HALT, BAR, CLOSE], [BAR, HALT, CLOSE]])
        self.assertEqual(self.steps(Row(BAR), Row(HALT, CLOSE)), [[BAR, HALT, CLOSE], [HALT, BAR, CLOSE], [HALT, CLOSE, BAR]])
        told = self.steps(Row(HALT, CLOSE), Row(BAR, SET))
        self.assertEqual(told, [[HALT, CLOSE, BAR, SET], [HALT, BAR, CLOSE, SET], [HALT, BAR, SET, CLOSE],
                                [BAR, HALT, CLOSE, SET], [BAR, HALT, SET, CLOSE], [BAR, SET, HALT, CLOSE]])
        self.assertTrue(all(isinstance(one, Row) for one in merges(Row(HALT), other=Row(BAR))))

    def test_rows_without_steps(self):
        self.assertEqual(self.steps(Row(), Row()), [[]])
        self.assertEqual(self.steps(Row(), Row(BAR, SET)), [[BAR, SET]])
        self.assertEqual(self.steps(Row(BAR, SET), Row()), [[BAR, SET]])

    def test_the_same_steps(self):
        self.assertEqual(self.steps(Row(HALT), Row(HALT)), [[HALT, HALT]] * 2)
        self.assertEqual(self.steps(Row(HALT, BAR), Row(HALT)), [[HALT, BAR, HALT], [HALT, HALT, BAR], [HALT, HALT, BAR]])

    def test_wrong_takes_and_gives(self):
        other = ("take", "k"), ("give", "k")
        told = self.steps(Row(TAKE, GIVE), Row(*other))
        self.assertEqual(told, [[TAKE, GIVE, *other], [TAKE, *other, GIVE], [other[0], TAKE, GIVE, other[1]], [*other, TAKE, GIVE]])
        self.assertEqual(self.steps(Row(TAKE, GIVE), Row(TAKE, GIVE)), [[TAKE, GIVE] * 2] * 2)
        self.assertEqual(len(self.steps(Row(TAKE, HALT, GIVE), Row(BAR))), 4)

    def test_all_choices(self):
        source = random.Random(151)
        steps = [HALT, CLOSE, BAR, SET, TAKE, GIVE, ("take", "k"), ("give", "k")]
        for _ in range(120):
            rows = []
            while len(rows) < 2:
                try:
                    rows.append(Row(*[source.choice(steps) for _ in range(source.randint(0, 4))]))
                except InvalidStep:
                    continue
            one, other = rows
            found = []
            for places in sorted(itertools.combinations(range(len(one) + len(other)), len(one))):
                rests = [iter(one.steps()), iter(other.steps())]
                merged = [next(rests[0 if index in places else 1]) for index in range(len(one) + len(other))]
                try:
                    found.append(Row(*merged))
                except InvalidStep:
                    continue
            self.assertEqual(list(merges(one, other)), found)

    def test_too_many_steps(self):
        self.assertEqual(len(self.steps(Row(*[HALT] * 4), Row(*[BAR] * 4))), 70)
        self.assertEqual(len(self.steps(Row(*[HALT] * 8), Row())), 1)
        for one, other in ((5, 4), (8, 1), (1, 8), (8, 8)):
            with self.assertRaises(InvalidStep) as caught:
                list(merges(Row(*[HALT] * one), Row(*[BAR] * other)))
            self.assertIsNone(caught.exception.index)


class TestGuarantee(unittest.TestCase):
    def pairs(self, seed):
        """Yield two drawn devices without a common name, with a row each."""
        source = random.Random(seed)
        while True:
            devices = [drawn_device(source, 1), renamed_device(drawn_device(source, 1))]
            kind = source.choice((careful_row, careful_row, drawn_row))
            rows = [kind(source, devices[0]), kind(source, devices[1])]
            words = [slow_word(device, row, 30) for device, row in zip(devices, rows)]
            if None not in words and sum(map(len, rows)) <= 8:
                yield devices, rows, words

    def test_a_merged_row_is_right_if_both_are(self):
        source = random.Random(152)
        found = {True: 0, False: 0}
        for devices, rows, words in self.pairs(153):
            try:
                device = joined(*devices)
            except DownError:
                continue
            right = words == ["right", "right"]
            merged = list(merges(*rows))
            for row in source.sample(merged, min(len(merged), 4)):
                found[right] += 1
                self.assertIs(is_right(device, row), right, (words, row.steps()))
            if min(found.values()) >= 60:
                break

    def test_a_lock_of_the_row(self):
        device = Device({"w": (TAKE, USE, GIVE)}, armed=("w",))
        row = Row(TAKE, ("cancel", "w"), GIVE, HALT)
        other = Device({"zw": (("take", "k"), ("start", "zw"), ("give", "k"))}, armed=("zw",))
        for last, right in (("halt", True), ("settle", False)):
            rows = list(merges(row, Row(("take", "k"), ("give", "k"), (last, "zw"))))
            self.assertTrue(rows)
            for one in rows:
                self.assertIs(is_right(joined(device, other), one), right)

    def test_big_devices(self):
        self.assertEqual(joined(DEVICE, Device({"z": (USE,)})).threads(), sorted(DEVICE.threads() + ["z"]))


if __name__ == "__main__":
    unittest.main()

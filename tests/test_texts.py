import random
import unittest

from draws import DEVICE, ROW, USE, draws
from reference import some_bodies
from takendown.bodies import Body
from takendown.devices import Device
from takendown.edits import edits
from takendown.errors import InvalidDevice, InvalidItem, InvalidStep, InvalidText, LimitExceeded, NotACrowd
from takendown.items import is_body
from takendown.rows import Row
from takendown.shorts import short_paper
from takendown.texts import read_body, read_device, read_row, write_body, write_device, write_row
from takendown.users import fewest_users
from takendown.verdicts import verdict
from values import nested, strange_values

BODIES = {
    "use": (USE,),
    "start w": (("start", "w"),),
    "cancel w": (("cancel", "w"),),
    "set f ; clear f": (("set", "f"), ("clear", "f")),
    "take l ; give l": (("take", "l"), ("give", "l")),
    "test f ( ) ( )": (("test", "f", (), ()),),
    "test f ( use ; start v ) ( )": (("test", "f", (USE, ("start", "v")), ()),),
    "choose ( ) ( use ) ; use": (("choose", (), (USE,)), USE),
    "choose ( test f ( ) ( choose ( use ) ( ) ) ) ( )": (("choose", (("test", "f", (), (("choose", (USE,), ()),)),), ()),),
    "piece l ( use ; test f ( start w ) ( ) ) ; use": (("piece", "l", (USE, ("test", "f", (("start", "w"),), ()))), USE),
    # Names that are words as well
    "start use ; test test ( ) ( use ) ; set piece": (("start", "use"), ("test", "test", (), (USE,)), ("set", "piece")),
}
STEPS = [(word, "abcdefgh") for word in ("cancel", "bar", "halt", "settle", "close", "drain", "set", "clear")]
NO_BODIES = [
    "", " ", "use ", " use", "use  ; use", "use ;", "; use", "use ; ; use", ";", "use;use", "use ;use", "use\n", "use ;\nuse",
    "use\t; use", "use x", "use ( )", "Use", "uses", "start", "start w v", "start W", "start w1", "start abcdefghi", "start ( w )",
    "start ;", "cancel", "set", "clear f g", "take", "give", "test", "test f", "test f ( )", "test f ( ) ( ) ( )", "test ( ) ( )",
    "test f use ( )", "test f ( ) use", "test f ( ) ( use", "test f ( ) use )", "test f ( ) ( ) )", "( test f ( ) ( ) )", "( use )",
    "( )", "()", "test f () ()", "test f ( )( )", "test f ( ; ) ( )", "test f ( use ; ) ( )", "test f ( ; use ) ( )",
    "test f (  ) ( )", "test f ( ( use ) ) ( )", "test f ( ( ) ) ( )", "test F ( ) ( )", "choose", "choose ( )", "choose f ( ) ( )",
    "choose ( ) ( ) ( )", "choose ( use ) ( uses )", "piece", "piece l", "piece ( use )", "piece l ( use ) ( )", "piece l use",
    "test f ( ) ", "test f  ( )", "choose  ", "piece l ", "test  ( ) ( )", "piece l ( ; )", "piece l ( used )", "halt w", "bar w", "use ( ;", ") (", "test f ) ( ( )", "use , use", "use ; ( use )",
]


def texts_of_depth(levels):
    """Return the text of tests so many of whose parentheses stand within one another."""
    return "use" if levels == 0 else "test f ( " + texts_of_depth(levels - 1) + " ) ( )"


class TextTest(unittest.TestCase):
    def invalid(self, call, text, line):
        with self.assertRaises(InvalidText) as caught:
            call(text)
        self.assertEqual((repr(caught.exception.line), text), (repr(line), text))

    def no_texts(self, call):
        for value in strange_values():
            if not isinstance(value, str):
                self.invalid(call, value, None)
        for value in (b"use", [("use",)], ("use",), Row(), 0):
            self.invalid(call, value, None)


class TestBodies(TextTest):
    def test_both_ways(self):
        for text, items in BODIES.items():
            self.assertEqual(write_body(items), text)
            self.assertEqual(read_body(text), items)
        self.assertEqual(write_body(items=(USE,)), "use")
        self.assertEqual(read_body(text="use"), (USE,))

    def test_kinds_of_values(self):
        self.assertEqual(repr(read_body("test f ( use ) ( ) ; use")), "(('test', 'f', (('use',),), ()), ('use',))")

    def test_not_written_so(self):
        for text in NO_BODIES:
            self.invalid(read_body, text, 0)
        self.no_texts(read_body)

    def test_parentheses_within_one_another(self):
        for levels in range(4):
            self.assertTrue(is_body(read_body(texts_of_depth(levels))))
        for levels in range(4, 8):
            with self.assertRaises(InvalidItem) as caught:
                read_body(texts_of_depth(levels))
            self.assertEqual(caught.exception.place, 3)
        for levels in range(8, 11):
            self.assertRaises(InvalidItem, read_body, texts_of_depth(levels))
        for levels in (11, 12, 300):
            self.invalid(read_body, texts_of_depth(levels), 0)
        self.invalid(read_body, "( " * 11 + ") " * 10 + ")", 0)
        self.invalid(read_body, "test f " + "( " * 5000, 0)
        self.invalid(read_body, "test f " + ") " * 5000, 0)
        # Ten at once, but one behind the other
        text = " ; ".join(["test f ( ) ( )"] * 8)
        self.assertEqual(read_body(text), (("test", "f", (), ()),) * 8)

    def test_left_to_the_class(self):
        for text, place in (("use ; " * 8 + "use", None), ("take l", 0), ("use ; give l", 1), ("take l ; take l ; give l ; give l", 1),
                            ("use ; piece l ( )", 1), ("piece l ( set f )", 0), ("piece l ( use ; piece l ( use ) )", 0),
                            ("take l ; piece l ( use ) ; give l", 1), ("piece l ( use ; use ; use ; use ; use )", 0),
                            ("use ; piece l ( choose ( ) ( ) )", 1), ("test f ( take l ) ( )", 1)):
            with self.assertRaises(InvalidItem) as caught:
                read_body(text)
            self.assertEqual((text, caught.exception.place), (text, place))

    def test_drawn_bodies(self):
        right = 0
        for items in some_bodies(161, 1500):
            text = write_body(items)
            if is_body(items):
                right += 1
                self.assertEqual(repr(read_body(text)), repr(items))
                self.assertEqual(Body(read_body(text)), Body(items))
            else:
                self.assertRaises(InvalidItem, read_body, text)
        self.assertGreater(right, 200)

    def test_bent_texts(self):
        source = random.Random(162)
        words = ["use", "start", "test", "choose", "(", ")", "w", ";", "", "piece", "W"]
        kinds = {InvalidText: 0, InvalidItem: 0, None: 0}
        for items in some_bodies(163, 700):
            told = write_body(items).split(" ")
            at = source.randrange(len(told))
            for bent in (told[:at] + told[at + 1:], told[:at] + [source.choice(words)] + told[at:],
                         told[:at] + [source.choice(words)] + told[at + 1:]):
                text = " ".join(bent)
                try:
                    self.assertEqual(write_body(read_body(text)), text)
                    kinds[None] += 1
                except (InvalidText, InvalidItem) as wrong:
                    kinds[type(wrong)] += 1
        self.assertGreater(min(kinds.values()), 10, kinds)


class TestRows(TextTest):
    def test_both_ways(self):
        for step in STEPS:
            self.assertEqual(write_row(Row(step)), " ".join(step))
            self.assertEqual(read_row(" ".join(step)), Row(step))
        text = "close door ; drain door ; bar w ; take l ; clear up ; give l ; halt w ; settle v"
        self.assertEqual((write_row(ROW), read_row(text)), (text, ROW))
        self.assertEqual((write_row(row=Row()), read_row(text="")), ("", Row()))
        self.assertIsInstance(read_row(""), Row)

    def test_not_written_so(self):
        for text in [" ", "halt", "halt w v", "halt W", "halt  w", " halt w", "halt w ", "halt w ;", "; halt w", "halt w ; ; bar w",
                     "halt w;bar w", "halt w ;bar w", "halt w\n", "halt w\nbar w", "halt\tw", "start w", "use", "Halt w", ";", "\n",
                     "halt ( w )", "( halt w )", "halt w ; stop w", "halt w ; halt", "halt abcdefghi", "halt w ;  bar w", "( )"]:
            self.invalid(read_row, text, 0)
        self.no_texts(read_row)

    def test_left_to_the_class(self):
        for text, index in ((" ; ".join(["halt w"] * 9), None), ("take l", 0), ("halt w ; give l", 1),
                            ("take l ; take k ; give l ; give k", 2), ("take l ; take l ; give l ; give l", 1)):
            with self.assertRaises(InvalidStep) as caught:
                read_row(text)
            self.assertEqual((text, caught.exception.index), (text, index))
        self.invalid(read_row, " ; ".join(["halt w"] * 9 + ["halt"]), 0)

    def test_drawn_rows(self):
        for _, row in draws(164, 300):
            self.assertEqual(read_row(write_row(row)), row)


class TestDevices(TextTest):
    TEXT = "\n".join([
        "work v test on ( take l ; cancel w ; give l ) ( ) ; clear on", "work w choose ( set on ) ( start v )",
        "guest g door take l ; use ; give l", "crowd b door piece l ( test on ( start v ) ( start w ; use ) ) ; use",
        "crowd c door choose ( use ) ( ) ; test up ( start w ) ( )", "armed w", "flags up"])

    def test_both_ways(self):
        self.assertEqual(write_device(DEVICE), self.TEXT)
        self.assertEqual(read_device(self.TEXT), DEVICE)
        self.assertEqual(write_device(device=Device({"w": (USE,)})), "work w use")
        self.assertEqual(read_device(text="work w use"), Device({"w": (USE,)}))

    def test_ascending(self):
        device = Device({"w": (("set", "b"), ("set", "a")), "a": (USE,), "m": (USE,)}, {"z": ("d", (USE,)), "b": ("e", (USE,))},
                        {"y": ("d", (USE,)), "c": ("e", (USE,))}, armed=("w", "a"), flags=("b", "a"))
        text = ("work a use\nwork m use\nwork w set b ; set a\nguest b e use\nguest z d use\ncrowd c e use\ncrowd y d use\n"
                "armed a w\nflags a b")
        self.assertEqual((write_device(device), read_device(text)), (text, device))

    def test_what_is_left_out(self):
        for device, text in ((Device({"w": (USE,)}, armed=("w",)), "work w use\narmed w"),
                             (Device({"w": (("set", "f"),)}, flags=("f",)), "work w set f\nflags f"),
                             (Device({"w": (("set", "f"),)}), "work w set f"),
                             (Device({"w": (USE,)}, None, {"c": ("d", (USE,))}), "work w use\ncrowd c d use")):
            self.assertEqual((write_device(device), read_device(text)), (text, device))

    def test_names_that_are_words(self):
        device = Device({"work": (("start", "armed"),), "armed": (USE,)}, {"flags": ("guest", (USE,))}, armed=("armed",))
        text = "work armed use\nwork work start armed\nguest flags guest use\narmed armed"
        self.assertEqual((write_device(device), read_device(text)), (text, device))

    def test_rows_that_are_not_written_so(self):
        rows = self.TEXT.split("\n")
        for at, row in enumerate(rows):
            for bent in ["", " ", row + " ", " " + row, row.replace(" ", "  ", 1), row.split(" ")[0], row + " ;", "x" + row,
                         row.title(), row + " ( )", row + " X", row + "\t", " ".join(row.split(" ")[:-1]) + " Q"]:
                self.invalid(read_device, "\n".join(rows[:at] + [bent] + rows[at + 1:]), at)
            if row.split(" ")[0] in ("work", "guest", "crowd"):
                for many in (2, 3):
                    bent = " ".join(row.split(" ")[:many])
                    if row.split(" ")[0] != "work" or many == 2:
                        self.invalid(read_device, "\n".join(rows[:at] + [bent] + rows[at + 1:]), at)
            # The first one counts.
            self.invalid(read_device, "\n".join(rows[:at] + ["work w"] * (len(rows) - at)), at)

    def test_bodies_that_are_not_written_so(self):
        for body in NO_BODIES:
            if "\n" not in body:
                self.invalid(read_device, "work v use\nwork w " + body + "\narmed w", 1)
                self.invalid(read_device, "work v use\nwork w use\nguest g d " + body, 2)

    def test_newlines(self):
        for text, line in (("", 0), ("\n", 0), ("work w use\n", 1), ("\nwork w use", 0), ("work w use\n\narmed w", 1),
                           ("work w use\r\narmed w", 0), ("work w\nuse", 0), ("work w use ;\nuse", 0)):
            self.invalid(read_device, text, line)
        self.no_texts(read_device)

    def test_order(self):
        work, other, guest, crowd, armed, flags = ("work w set f", "work x use", "guest g d use", "crowd c d use", "armed w",
                                                   "flags f")
        for rows, line in (([other, work], 1), ([work, work], 1), ([guest, work], 1), ([work, crowd, guest], 2),
                           ([work, armed, crowd], 2), ([work, flags, armed], 2), ([work, armed, armed], 2),
                           ([work, flags, flags], 2), ([work, armed, "armed x"], 2), ([work, "flags f", "flags g"], 2),
                           ([work, armed, other], 2), ([work, guest, other], 2), ([work, guest, "guest f d use"], 2),
                           ([work, guest, guest], 2), ([work, crowd, "crowd a d use"], 2), ([work, crowd, "crowd c e use"], 2),
                           ([armed, work], 1), ([flags, work], 1), ([work, armed, flags, "armed x"], 3),
                           ([other, work, "nothing"], 1), (["nothing", other, work], 0)):
            self.invalid(read_device, "\n".join(rows), line)
        self.assertEqual(read_device("\n".join([work, other, guest, crowd, armed, flags])).threads(), ["c", "g", "w", "x"])

    def test_armed_and_flags(self):
        for kind in ("armed", "flags"):
            works = "work v set v\nwork w set w\n"
            for names in ("", " ", " w v", " w w", " v w w", " v  w", " v W", " v ; w", " v w ", " v ( )", " ( v )"):
                self.invalid(read_device, works + kind + names, 2)
            told = read_device(works + kind + " v w")
            self.assertEqual((told.armed, told.flagged), (("v", "w"), ()) if kind == "armed" else ((), ("v", "w")))

    def test_left_to_the_class(self):
        works = "\n".join("work " + name + " use" for name in "abcde")
        for text, part, name in ((works, "works", None), ("guest g d use", "works", None), ("armed w", "works", None),
                                 ("work w use ; " + "use ; " * 8 + "use", "works", "w"), ("work w take l", "works", "w"),
                                 ("work w use ; piece l ( use )", "works", "w"), ("work w start x", "works", "x"),
                                 ("work w " + texts_of_depth(4), "works", "w"), ("work w " + texts_of_depth(10), "works", "w"),
                                 ("work w use\nguest w d use", "guests", "w"), ("work w use\ncrowd w d use", "crowds", "w"),
                                 ("work w use\nguest g d piece l ( use )", "guests", "g"), ("work w use\narmed x", "armed", None),
                                 ("work w use\nflags f", "flags", None), ("work w use\nguest a d use\nguest b d use\nguest c d use", "guests", None),
                                 ("work w set a ; set b ; set c ; set d ; set e", "flags", None),
                                 ("work w take a ; give a ; take b ; give b ; take c ; give c\nwork x take d ; give d", "locks", None),
                                 ("work w use\ncrowd c d piece l ( )", "crowds", "c")):
            with self.assertRaises(InvalidDevice) as caught:
                read_device(text)
            self.assertEqual((text, caught.exception.part, caught.exception.name), (text, part, name))
        with self.assertRaises(NotACrowd) as caught:
            read_device("work w use\ncrowd c d use ; set f")
        self.assertEqual((caught.exception.name, caught.exception.place), ("c", 1))
        self.invalid(read_device, works + "\nwork", 5)
        self.invalid(read_device, "work w " + texts_of_depth(11), 0)

    def test_many_rows(self):
        names = [one + other + "x" for one in "abcdefghijklmnopqrstuvwxyz" for other in "abcdefghijklmnopqrstuvwxyz"]
        with self.assertRaises(InvalidDevice):
            read_device("\n".join("work " + name + " use" for name in names))
        self.invalid(read_device, "\n".join("work " + name + " use" for name in names + ["a"]), len(names))


class TestDraws(unittest.TestCase):
    def test_read_back_to_equal_things(self):
        read = 0
        for device, row in draws(165, 250):
            other, again = read_device(write_device(device)), read_row(write_row(row))
            self.assertEqual((other, again), (device, row))
            self.assertEqual((write_device(other), write_row(again)), (write_device(device), write_row(row)))
            for name in device.threads():
                self.assertEqual(read_body(write_body(device[name].code)), device[name].code)
            self.assertEqual(short_paper(other, again), short_paper(device, row))
            self.assertEqual(edits(other), edits(device))
            try:
                told = verdict(device, row, limit=400), fewest_users(device, row, limit=400)
            except LimitExceeded:
                continue
            read += 1
            self.assertEqual((verdict(other, again, limit=400), fewest_users(other, again, limit=400)), told)
        self.assertGreater(read, 100)

    def test_nothing_but_texts(self):
        self.assertEqual(write_body((nested(3),)), "test f ( test f ( test f ( ) ( ) ) ( ) ) ( )")


if __name__ == "__main__":
    unittest.main()

import unittest

from draws import DEVICE, ROW, USE, draws
from takendown.bench import Bench
from takendown.console import Console
from takendown.devices import Device
from takendown.errors import InvalidCommand, InvalidDevice, InvalidStep, InvalidText, LimitExceeded, UnknownName
from takendown.rows import Row
from takendown.shorts import short_paper
from takendown.tables import Table
from takendown.texts import write_device, write_row
from takendown.users import CountedTable, fewest_users
from takendown.verdicts import verdict
from test_users import THREE, THREE_ROW, TWO, TWO_ROW
from test_waits import CROSSED, CROSSED_ROW, CROWD, SELF, SETTLE
from values import strange_values

GOOD = "work w use ; start w / crowd c door start w / armed w"


def told(console):
    bench = console.bench
    return bench.names(), [bench[name] for name in bench.names()], bench.bound


class ConsoleTest(unittest.TestCase):
    def setUp(self):
        self.console = Console()

    def answers(self, *pairs):
        for command, answer in pairs:
            self.assertEqual((command, self.console.run(command)), (command, answer))

    def refused(self, kind, command, **attributes):
        before = told(self.console)
        with self.assertRaises(kind) as caught:
            self.console.run(command)
        for name, value in attributes.items():
            self.assertEqual((command, getattr(caught.exception, name)), (command, value))
        self.assertEqual(told(self.console), before)

    def keep(self, **things):
        for name, thing in things.items():
            self.console.bench[name] = thing


class TestCommands(ConsoleTest):
    def test_a_session(self):
        self.answers(("names", "-"), ("device d " + GOOD, "ok"), ("row r close door ; drain door ; bar w ; halt w", "ok"),
                     ("names", "d r"), ("ask d r", "right"), ("users d r", "-"), ("short d r", "yes"), ("row r halt w", "ok"),
                     ("ask d r", "loud 2"), ("users d r", "0"), ("short d r", "no"), ("show d", GOOD), ("show r", "halt w"),
                     ("drop r", "ok"), ("names", "d"), ("drop d", "ok"), ("names", "-"))
        self.assertEqual(Console().run(command="names"), "-")

    def test_the_bench(self):
        self.assertIsInstance(self.console.bench, Bench)
        self.assertIs(self.console.bench, self.console.bench)
        self.console.run("row r halt w")
        self.assertEqual(self.console.bench["r"], Row(("halt", "w")))
        self.console.bench["s"] = Row()
        self.answers(("names", "r s"), ("show s", ""))
        self.assertEqual(len(Console().bench), 0)

    def test_texts(self):
        self.answers(("device d " + write_device(DEVICE).replace("\n", " / "), "ok"), ("row r " + write_row(ROW), "ok"))
        self.assertEqual((self.console.bench["d"], self.console.bench["r"]), (DEVICE, ROW))
        self.answers(("show d", write_device(DEVICE).replace("\n", " / ")), ("show r", write_row(ROW)))
        self.answers(("device d work w use", "ok"), ("show d", "work w use"))

    def test_an_empty_row(self):
        self.answers(("row r", "ok"), ("show r", ""), ("device d work w use", "ok"), ("ask d r", "right"))
        self.assertEqual(self.console.bench["r"], Row())

    def test_a_thing_in_the_place_of_another(self):
        self.answers(("row r halt w", "ok"), ("device r work w use", "ok"), ("show r", "work w use"), ("row r", "ok"), ("names", "r"))

    def test_names_that_are_words(self):
        self.answers(("device device work work use", "ok"), ("row row", "ok"), ("names", "device row"), ("ask device row", "right"),
                     ("show device", "work work use"), ("drop device", "ok"), ("names", "row"))

    def test_answers_about_waiting(self):
        self.keep(s=SELF, settle=SETTLE, x=CROSSED, halts=CROSSED_ROW)
        self.answers(("ask s settle", "waits round"), ("ask x halts", "waits dead"), ("users s settle", "-"), ("short x halts", "no"))

    def test_answers_about_loud_rows(self):
        device = Device({"w": (USE,)}, crowds={"c": ("d", (USE, USE, ("start", "w")))})
        self.keep(c=device, r=Row(("close", "d"), ("halt", "w")), empty=Row())
        self.answers(("ask c r", "loud 4"), ("users c r", "1"), ("ask c empty", "loud 1"), ("users c empty", "0"))
        self.assertEqual(len(Table(device, self.console.bench["r"]).loud()), 4)

    def test_more_users(self):
        self.console.bench.bound = 100000
        self.keep(two=TWO, tworow=TWO_ROW, three=THREE, threerow=THREE_ROW)
        self.answers(("users two tworow", "2"), ("users three threerow", "3"))

    def test_the_bound(self):
        row = Row(("close", "d"), ("halt", "w"))
        self.keep(c=CROWD, r=row)
        many = max(len(Table(CROWD, row)), len(CountedTable(CROWD, row, 1)))
        self.console.bench.bound = many
        self.answers(("ask c r", "loud 4"), ("users c r", "1"))
        self.console.bench.bound = len(Table(CROWD, row)) - 1
        for command in ("ask c r", "users c r"):
            self.refused(LimitExceeded, command, limit=self.console.bench.bound)
        self.answers(("short c r", "no"))

    def test_draws(self):
        for device, row in draws(181, 120):
            self.keep(d=device, r=row)
            self.console.bench.bound = 150
            try:
                word, *paper = verdict(device, row, limit=150)
                users = fewest_users(device, row, limit=150)
            except LimitExceeded:
                continue
            answer = {"right": "right", "loud": f"loud {len(paper[0])}"}.get(word) or ("waits dead" if paper[1] == [] else "waits round")
            self.answers(("ask d r", answer), ("users d r", "-" if users is None else str(users[0])),
                         ("short d r", "no" if short_paper(device, row) is None else "yes"), ("show r", write_row(row)))


class TestErrors(ConsoleTest):
    def setUp(self):
        super().setUp()
        self.answers(("device d work w use", "ok"), ("row r halt w", "ok"))

    def test_no_commands(self):
        for value in strange_values() + [b"names", ["names"], ("names",), Row()]:
            if not isinstance(value, str):
                self.refused(InvalidCommand, value, word=None)
        for command in ("", " ", "names ", " names", "drop  r", "row r halt  w", "row r ", "names\n", "row r halt w\nnames", "row\tr",
                        "device d work w use\narmed w", "foo ", "show r\t", "\n", "device d work w use  / armed w", "ask D  X"):
            self.refused(InvalidCommand, command, word=None)

    def test_no_such_words(self):
        for command in ("foo", "foo r", "Names", "show,", "keep r halt w", "run", "device", "row", "drop", "drop r r", "names r",
                        "show", "show d r", "ask", "ask d", "ask d r r", "users", "users d", "users d r x", "short", "short d",
                        "short d r d", "d r", "/", "ok"):
            self.refused(InvalidCommand, command, word=command.split(" ")[0])

    def test_names(self):
        for command, name in (("device D", "D"), ("device D halt", "D"), ("row R halt", "R"), ("row ninechars", "ninechars"),
                              ("row 1 halt w", "1"), ("drop x", "x"), ("drop D", "D"), ("show x", "x"), ("show ;", ";"),
                              ("ask x y", "x"), ("ask r d", "r"), ("ask d d", "d"), ("ask d x", "x"), ("ask D R", "D"),
                              ("users r d", "r"), ("users d d", "d"), ("short r r", "r"), ("short d x", "x"), ("users x r", "x")):
            self.refused(UnknownName, command, name=name)

    def test_errors_of_the_functions(self):
        self.refused(InvalidText, "device d", line=0)
        self.refused(InvalidText, "device e work w use / work v use", line=1)
        self.refused(InvalidText, "device e work w use /", line=0)
        self.refused(InvalidText, "device e / work w use", line=0)
        self.refused(InvalidText, "device e work w use / / armed w", line=1)
        self.refused(InvalidText, "row e halt", line=0)
        self.refused(InvalidText, "row e halt w / bar w", line=0)
        self.refused(InvalidDevice, "device e work w start x", part="works", name="x")
        self.refused(InvalidDevice, "device e work w use / armed x", part="armed", name=None)
        self.refused(InvalidStep, "row e take l", index=0)
        self.refused(InvalidStep, "row e " + " ; ".join(["halt w"] * 9), index=None)
        self.answers(("row s halt v ; close d", "ok"))
        for command in ("ask d s", "users d s", "short d s"):
            self.refused(UnknownName, command, name="v")

    def test_at_most_twelve(self):
        for letter in "abcefghijk":
            self.answers(("row " + letter, "ok"))
        for command in ("row x", "device x work w use", "row x halt w"):
            self.refused(LimitExceeded, command, limit=12)
        self.refused(InvalidText, "row x halt", line=0)
        self.refused(UnknownName, "row X", name="X")
        self.answers(("row a halt w", "ok"), ("drop a", "ok"), ("row x", "ok"), ("names", "b c d e f g h i j k r x"))


if __name__ == "__main__":
    unittest.main()

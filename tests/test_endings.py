import copy
import random
import unittest

from draws import DEVICE, LOCKED, ROW, USE, careful_row, draws, drawn_row, patient_row
from slow import slow_table
from slow_waits import Slow
from takendown.devices import Device
from takendown.endings import ending_of, is_ending, parts
from takendown.errors import InvalidNumber, InvalidState, LimitExceeded, UnknownName
from takendown.rows import Row
from takendown.states import first_state
from takendown.tables import Table
from test_tables import NO_LIMITS, WRONG_NAMES
from test_waits import CROSSED, CROSSED_ROW, CROWD, KINDS, SELF, SETTLE, WAITING
from values import EqualToAll, strange_values

OFF = (False, None)
CLOSED = Row(("close", "d"), ("drain", "d"), ("settle", "w"))
BOUNDED = Row(("bar", "w"), ("settle", "w"))


READINGS = {}


def judged(device, row, states, value):
    """Return what a slow reading says of an ending paper for the waiting ones among some states."""
    slow = READINGS.setdefault((id(device), id(row)), Slow(device, row))
    stuck = [state for state in states if slow.is_stuck(state)]
    return not any(map(slow.is_dead, stuck)) and slow.is_ending(stuck, value)


class Papers(unittest.TestCase):
    def check(self, device, row, states, value, right=None):
        """Check that a paper is judged as the slow reading judges it, and as is said."""
        slow = judged(device, row, states, value)
        self.assertIs(is_ending(device, row, states, value), slow)
        if right is not None:
            self.assertIs(slow, right)


class TestEndingOf(Papers):
    def test_told_papers_are_accepted(self):
        for kind, device, row in WAITING:
            told = ending_of(device, row)
            self.assertEqual(told is None, kind is not None)
            if told is not None:
                self.check(device, row, Table(device, row).states(), told, True)
                self.assertEqual(told, ending_of(row=row, device=device, limit=6000))
                self.assertIsInstance(told, list)

    def test_small_papers(self):
        self.assertEqual(ending_of(SELF, Row()), [])
        device, row = Device({"w": (USE,)}, armed=("w",)), Row(("settle", "w"))
        first, second = (((True, None),), (), (), (), 0), (((False, 0),), (), (), (), 0)
        self.assertEqual(repr(ending_of(device, row)), repr([([first], None, []), ([second], None, [])]))

    def test_a_mover_that_moves_on(self):
        device, row = Device({"v": (("start", "v"),), "w": (USE,)}, armed=("v", "w")), Row(("settle", "w"))
        told = ending_of(device, row)
        self.assertEqual([reason for _, reason, _ in told], [("moves", "w"), ("moves", "w")])
        self.assertEqual([inner for _, _, inner in told], [[], []])

    def test_a_place_that_is_left(self):
        told = ending_of(CROWD, CLOSED)
        self.check(CROWD, CLOSED, Table(CROWD, CLOSED).states(), told, True)
        reasons = set()

        def visit(paper):
            for _, reason, inner in paper:
                reasons.add(reason)
                visit(inner)

        visit(told)
        self.assertTrue({None, ("left", "c", 0)} <= reasons)

    def test_new_lists(self):
        ending_of(CROWD, CLOSED).clear()
        self.assertGreater(len(ending_of(CROWD, CLOSED)), 0)

    def test_errors(self):
        for call in (lambda: ending_of(DEVICE, WRONG_NAMES, limit=0), lambda: is_ending(DEVICE, WRONG_NAMES, None, None),
                     lambda: parts(DEVICE, WRONG_NAMES, None, [])):
            with self.assertRaises(UnknownName) as caught:
                call()
            self.assertEqual(caught.exception.name, "g")
        for value in NO_LIMITS:
            with self.assertRaises(InvalidNumber) as caught:
                ending_of(SELF, SETTLE, limit=value)
            self.assertIs(caught.exception.value, value)
        many = len(Table(CROWD, CLOSED))
        self.assertIsNotNone(ending_of(CROWD, CLOSED, limit=many))
        with self.assertRaises(LimitExceeded) as caught:
            ending_of(CROWD, CLOSED, limit=many - 1)
        self.assertEqual(caught.exception.limit, many - 1)

    def test_draws(self):
        told_papers = 0
        for device, row in draws(81, 300, KINDS):
            depths = slow_table(device, row, 60)
            if depths is None:
                continue
            told = ending_of(device, row)
            self.assertEqual(told is None, Slow(device, row).waits(depths) is not None)
            if told is not None:
                told_papers += 1
                self.check(device, row, list(depths), told, True)
        self.assertGreater(told_papers, 100)


class TestIsEnding(Papers):
    """A crowd that starts a work for which the row waits, and a work that starts itself or not."""

    DEVICE = Device({"v": (("choose", (("start", "v"),), ()),), "w": (USE,)},
                    crowds={"c": ("d", (USE, ("start", "w")))}, armed=("v",))
    ROW = Row(("close", "d"), ("settle", "w"))
    STATES = Table(DEVICE, ROW).states()
    PAPER = ending_of(DEVICE, ROW)

    def bent(self, change):
        """Return the paper, changed by a function in place or by what it returns."""
        paper = copy.deepcopy(self.PAPER)
        told = change(paper)
        return paper if told is None else told

    def test_right(self):
        self.check(self.DEVICE, self.ROW, self.STATES, self.PAPER, True)
        told = is_ending(value=self.PAPER, states=self.STATES, row=self.ROW, device=self.DEVICE)
        self.assertIs(told, True)
        self.check(self.DEVICE, self.ROW, self.STATES * 2, self.PAPER, True)
        self.check(self.DEVICE, self.ROW, self.STATES[::-1], self.PAPER, True)

    def test_reasons_in_it(self):
        words = {reason and reason[0] for _, reason, _ in walk(self.PAPER)}
        self.assertEqual(words, {None, "moves", "left"})

    def test_another_set(self):
        slow = Slow(self.DEVICE, self.ROW)
        stuck = [state for state in self.STATES if slow.is_stuck(state)]
        self.check(self.DEVICE, self.ROW, [state for state in self.STATES if state not in stuck], [], True)
        self.check(self.DEVICE, self.ROW, [state for state in self.STATES if state not in stuck], self.PAPER, False)
        self.check(self.DEVICE, self.ROW, stuck, self.PAPER, True)
        self.check(self.DEVICE, self.ROW, stuck[1:], self.PAPER, False)
        self.check(self.DEVICE, self.ROW, self.STATES, [], False)

    def test_a_state_left_out_or_twice_or_more(self):
        first = first_state(self.DEVICE, self.ROW)
        for at in range(len(self.PAPER)):
            self.check(self.DEVICE, self.ROW, self.STATES, self.PAPER[:at] + self.PAPER[at + 1:], False)
            self.check(self.DEVICE, self.ROW, self.STATES, self.PAPER + [self.PAPER[at]], False)
            self.check(self.DEVICE, self.ROW, self.STATES, self.bent(lambda paper: paper[at][0].pop() and None), False)
            self.check(self.DEVICE, self.ROW, self.STATES,
                       self.bent(lambda paper: paper[at][0].append(paper[at][0][0])), False)
            self.check(self.DEVICE, self.ROW, self.STATES, self.bent(lambda paper: paper[at][0].append(first)), False)
            for _ in range(2):
                self.check(self.DEVICE, self.ROW, self.STATES,
                           self.bent(lambda paper: paper[at - 1][0].append(paper[at][0][0])), False)

    def test_parts_exchanged(self):
        for at in range(len(self.PAPER) - 1):
            value = list(self.PAPER)
            value[at], value[at + 1] = value[at + 1], value[at]
            self.check(self.DEVICE, self.ROW, self.STATES, value)
        self.check(self.DEVICE, self.ROW, self.STATES, self.PAPER[::-1], False)

    def test_parts_without_states(self):
        for at in range(len(self.PAPER) + 1):
            for reason, inner, right in ((None, [], False), (("left", "c", 0), [], True), (("moves", "w"), [], False),
                                         (("left", "c", 0), [([], ("left", "c", 1), [])], True),
                                         (("left", "c", 0), [([], ("left", "c", 0), [])], False),
                                         (("left", "c", 2), [], False), (("left", "c", 0), [([], None, [])], False),
                                         (("left", "c", 0), (), False), (("left", "b", 0), [], False)):
                value = self.PAPER[:at] + [([], reason, inner)] + self.PAPER[at:]
                self.check(self.DEVICE, self.ROW, self.STATES, value, right)

    def test_reasons_that_are_not_so(self):
        reasons = [None, ("moves", "w"), ("moves", "v"), ("moves", "d"), ("moves", ("c", 0)), ("moves", ("c", 1)),
                   ("moves", ("c", 2)), ("moves", ("w", 0)), ("moves", "x"), ("moves", "c"), ("left", "c", 0),
                   ("left", "c", 1), ("left", "c", 2), ("left", "v", 0)]
        bad = [(), ("moves",), ("left",), ("left", "c"), ("left", ("c", 0)), ["left", "c", 0], ["moves", "w"], "moves",
               ("moves", "w", 0), ("left", "c", 0, 0), ("left", "c", False), ("left", "c", True), ("moves", ("c", False)),
               ("moves", ("c", True)), ("moves", ["c", 0]), ("moves", None), ("moves", EqualToAll()), (None,),
               (None, "w"), ("left", "c", None), ("left", None, 0), ("moves", ("c",)), ("moves", ()), ("stays", "w"),
               ("left", "c", -1), ("moves", ("c", -1)), False, 0, ("stays", "c", 0), ("moves", "c", 0),
               ("left", EqualToAll(), 0), ("moves", (EqualToAll(), 0)), (EqualToAll(), "w"), (EqualToAll(), "c", 0)]
        for at, (states, reason, inner) in enumerate(self.PAPER):
            for other in reasons + bad + strange_values():
                value = self.PAPER[:at] + [(states, other, inner)] + self.PAPER[at + 1:]
                right = False if repr(other) in list(map(repr, bad)) else None
                self.check(self.DEVICE, self.ROW, self.STATES, value, right)

    def test_places_that_are_bools(self):
        device = Device({"w": (USE,), "v": (("start", "v"),)}, crowds={"c": ("d", (USE, USE))}, armed=("v",))
        row = Row(("close", "d"), ("drain", "d"))
        states = Table(device, row).states()
        paper = ending_of(device, row)
        self.check(device, row, states, paper, True)
        for place, other in ((0, False), (1, True)):
            for word in ("moves", "left"):
                bent, many = with_bools(paper, word, place, other)
                self.assertGreater(many, 0)
                self.check(device, row, states, bent, False)
                self.check(device, row, states, with_bools(paper, word, place, place)[0], True)

    def test_inner_papers_for_other_states(self):
        inners = [inner for _, _, inner in self.PAPER] + [self.PAPER]
        for at, (states, reason, inner) in enumerate(self.PAPER):
            for other in inners + strange_values() + [tuple(inner), inner + inner, inner[1:], inner[:-1]]:
                value = self.PAPER[:at] + [(states, reason, other)] + self.PAPER[at + 1:]
                self.check(self.DEVICE, self.ROW, self.STATES, value)

    def test_bools_in_states(self):
        works, flags, guests, crowds, done = self.PAPER[0][0][0]
        for wrong in [(works, flags, guests, crowds, bool(done)), [works, flags, guests, crowds, done],
                      (tuple((int(armed), place) for armed, place in works), flags, guests, crowds, done), None]:
            self.check(self.DEVICE, self.ROW, self.STATES, self.bent(lambda paper: paper[0][0].__setitem__(0, wrong)),
                       False)

    def test_any_value(self):
        for value in strange_values() + [tuple(self.PAPER), self.PAPER + [None], [list(part) for part in self.PAPER],
                                         self.PAPER[0], [self.PAPER]]:
            self.check(self.DEVICE, self.ROW, self.STATES, value, False)
        for wrong in strange_values():
            for at in range(3):
                part = self.PAPER[0][:at] + (wrong,) + self.PAPER[0][at + 1:]
                self.check(self.DEVICE, self.ROW, self.STATES, [part] + self.PAPER[1:])

    def test_dead_stands(self):
        states = Table(CROSSED, CROSSED_ROW).states()
        slow = Slow(CROSSED, CROSSED_ROW)
        stuck = sorted((state for state in states if slow.is_stuck(state)),
                       key=lambda state: sum(5 if place is None and not armed else -1 if place is None else place
                                             for armed, place in state[0]))
        self.assertIs(slow.is_ending(stuck, [([state], None, []) for state in stuck]), True)
        self.check(CROSSED, CROSSED_ROW, states, [([state], None, []) for state in stuck], False)
        alive = [state for state in stuck if not slow.is_dead(state)]
        self.check(CROSSED, CROSSED_ROW, alive, [([state], None, []) for state in alive], True)

    def test_states_that_are_none(self):
        for value in [None, (), tuple(self.STATES), {}, "state", 0, EqualToAll()]:
            for call in (lambda: is_ending(self.DEVICE, self.ROW, value, None),
                         lambda: parts(self.DEVICE, self.ROW, value, [])):
                with self.assertRaises(InvalidState) as caught:
                    call()
                self.assertIs(caught.exception.value, value)
        torn = (((False, 1), (False, 1)), (), (), (), 0)
        held = Device({"v": LOCKED, "w": LOCKED})
        with self.assertRaises(InvalidState) as caught:
            is_ending(held, Row(), [first_state(held, Row()), torn], [])
        self.assertIs(caught.exception.value, torn)
        for wrong in strange_values() + [list(self.STATES[0])]:
            for call in (lambda: is_ending(self.DEVICE, self.ROW, self.STATES + [wrong, 0], None),
                         lambda: parts(self.DEVICE, self.ROW, self.STATES + [wrong, 0], [])):
                with self.assertRaises(InvalidState) as caught:
                    call()
                self.assertIs(caught.exception.value, wrong)

    def test_freed_states_are_not_waiting(self):
        freed = (((True, None),), (), (), (), 2)
        self.check(SELF, SETTLE, [freed], [], True)
        self.check(SELF, SETTLE, [freed], [([freed], None, [])], False)

    def test_spent_places(self):
        device = Device({"w": (USE,)}, crowds={"c": ("d", (USE, ("start", "w")))})
        row = Row(("close", "d"), ("settle", "w"))
        states = [((OFF,), (), (), ((0,),), 1), (((True, None),), (), (), ((0,),), 1), (((False, 0),), (), (), ((0,),), 1)]
        # The last place is empty in these states, so that users stay at the first one only.
        alone = [states[1], states[2]]
        paper = [([states[1]], ("left", "c", 0), [([states[1]], None, [])]), ([states[2]], None, [])]
        self.check(device, row, alone, paper, True)
        twice = [([states[1]], ("left", "c", 0), [([states[1]], ("left", "c", 0), [([states[1]], None, [])])]),
                 ([states[2]], None, [])]
        self.check(device, row, alone, twice, False)
        other = [([states[1]], ("left", "c", 0), [([states[1]], ("left", "c", 1), [([states[1]], None, [])])]),
                 ([states[2]], None, [])]
        self.check(device, row, alone, other, True)

    def test_a_place_that_users_come_to_is_not_left(self):
        # Users stay at place 1 while others go out, so that the work runs again and again.
        device = Device({"w": (USE,)}, crowds={"c": ("d", (("start", "w"),))})
        states = Table(device, Row(("close", "d"), ("settle", "w"))).states()
        told = ending_of(device, Row(("close", "d"), ("settle", "w")))
        self.check(device, Row(("close", "d"), ("settle", "w")), states, told, True)
        row = Row(("settle", "w"))
        stuck = [state for state in Table(device, row).states() if Slow(device, row).is_stuck(state)]
        inner = [([state], None, []) for state in stuck]
        self.check(device, row, stuck, [(stuck, ("left", "c", 0), inner)], False)
        self.check(device, row, stuck, [(stuck, ("moves", "w"), [])], False)

    def test_bent_papers_of_draws(self):
        source = random.Random(6)
        told = {True: 0, False: 0}
        for device, row in draws(82, 150, (careful_row, drawn_row, patient_row)):
            depths = slow_table(device, row, 60)
            paper = None if depths is None else ending_of(device, row)
            if not paper:
                continue
            for _ in range(20):
                value = bend(source, device, paper)
                right = judged(device, row, list(depths), value)
                self.assertIs(is_ending(device, row, list(depths), value), right)
                told[right] += 1
        self.assertGreater(min(told.values()), 100, told)


def walk(paper):
    """Yield all parts of a paper, those of inner papers too."""
    for part in paper:
        yield part
        yield from walk(part[2])


def with_bools(paper, word, place, other):
    """Return a paper with another value for a place in reasons with a word, and in how many."""
    found, many = [], 0
    for states, reason, inner in paper:
        if reason in (("left", "c", place), ("moves", ("c", place))) and reason[0] == word:
            many += 1
            reason = (word, "c", other) if word == "left" else (word, ("c", other))
        inner, more = with_bools(inner, word, place, other)
        found.append((states, reason, inner))
        many += more
    return found, many


def bend(source, device, paper):
    """Return a paper that is bent in one way, somewhere."""
    paper = copy.deepcopy(paper)
    row = source.choice([paper] + [inner for _, _, inner in walk(paper) if inner])
    at, other = source.randrange(len(row)), source.randrange(len(row))
    states, reason, inner = row[at]
    spots = [(crowd, place) for crowd in device.crowds() for place in range(len(device[crowd]))]
    reasons = [None] + [("moves", mover) for mover in device.threads() + spots] + [("left", *spot) for spot in spots]
    way = source.randrange(8)
    if way == 0:
        row[at], row[other] = row[other], row[at]
    elif way == 1:
        row[at] = (states, source.choice(reasons), inner)
    elif way == 2:
        row[at] = (states, reason, source.choice([inner for _, _, inner in walk(paper)]))
    elif way == 3 and states:
        row[other][0].append(states.pop())
    elif way == 4:
        row.insert(at, ([], source.choice(reasons), []))
    elif way == 5:
        del row[at]
    elif way == 6 and spots:
        # A part may be told to be left first, although that is not needed.
        row[at] = (states, ("left", *source.choice(spots)), [(list(states), reason, inner)])
    else:
        row[at] = (states + row[other][0], source.choice(reasons), inner + row[other][2])
        if at != other:
            del row[other]
    return paper


class TestParts(unittest.TestCase):
    def test_all_states_also_steps(self):
        states = Table(SELF, Row(("halt", "w"))).states()
        told = parts(SELF, Row(("halt", "w")), states, [])
        self.assertEqual([sorted(map(repr, part)) for part in told],
                         [sorted(map(repr, (state for state in states if state[4] == done))) for done in (0, 1)])

    def test_one_that_leads_on_comes_first(self):
        device, row = Device({"w": (USE,)}, armed=("w",)), Row(("settle", "w"))
        first, second = (((True, None),), (), (), (), 0), (((False, 0),), (), (), (), 0)
        third, last, freed = ((OFF,), (), (), (), 0), ((OFF,), (), (), (), 1), ((OFF,), (), (), (), 2)
        for states in ([first, second, third, last, freed], [freed, third, first, last, second]):
            self.assertEqual(parts(device, row, states, []), [[first], [second], [third], [last], [freed]])
        self.assertEqual(parts(spent=[], states=[], row=row, device=device), [])
        self.assertEqual(parts(device, row, [first, first], []), [[first]])

    def test_spent_places(self):
        device, row = Device({"w": (USE,)}, crowds={"c": ("d", (USE, USE))}), Row(("drain", "d"))
        states = [((OFF,), (), (), (places,), 0) for places in ((0,), (1,), (0, 1))]
        empty = ((OFF,), (), (), ((),), 0)
        self.assertEqual(len(parts(device, row, states + [empty], [])), 1)
        for spent in ([("c", 0)], [("c", 1)], [("c", 0), ("c", 1)]):
            told = {frozenset(part) for part in parts(device, row, states, spent)}
            self.assertEqual(told, Slow(device, row).parts(states, spent))
        # Those at place 1 stay there for ever, so that others only come to them.
        self.assertEqual(parts(device, row, states[1:], [("c", 0), ("c", 1)]), [[states[1]], [states[2]]])
        self.assertEqual(parts(device, row, states, [("c", 1)])[0], [states[0]])

    def test_draws(self):
        source = random.Random(3)
        for device, row in draws(83, 200, (careful_row, drawn_row, patient_row)):
            depths = slow_table(device, row, 120)
            if depths is None:
                continue
            slow = Slow(device, row)
            spots = [(crowd, place) for crowd in device.crowds() for place in range(len(device[crowd]))]
            states = [state for state in depths if source.random() < 0.8]
            for spent in ([], [spot for spot in spots if source.random() < 0.5]):
                told = parts(device, row, states, spent)
                self.assertEqual(sum(map(len, told)), len(states))
                self.assertEqual({frozenset(part) for part in told}, slow.parts(states, spent))
                number = {state: at for at, part in enumerate(told) for state in part}
                self.assertTrue(all(number[one] <= number[two] for one, _, two in slow.links(states, spent)))


if __name__ == "__main__":
    unittest.main()

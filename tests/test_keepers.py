import random
import unittest

from draws import DEVICE, USE, careful_row, drawn_device, draws
from slow_rows import slow_edited, slow_word
from takendown.devices import Device
from takendown.edits import edited, edits
from takendown.errors import InvalidEdit, LimitExceeded, NothingToUndo, NotRight, UnknownName
from takendown.keepers import Keeper
from takendown.rows import Row
from takendown.tables import Table
from takendown.verdicts import verdict
from test_tables import WRONG_NAMES
from test_waits import CROSSED, CROSSED_ROW, SELF, SETTLE
from values import strange_values

START = ("start", "w")
# The work starts itself if the flag is set, which it is not: if it were, a settle would never come about.
DOOR = Device({"w": (("test", "f", (START,), ()), USE)}, {"g": ("d", (("take", "l"), USE, ("give", "l")))}, armed=("w",))
CLOSED = (("close", "d"), ("drain", "d"))
GOOD = Row(*CLOSED, ("settle", "w"))
OTHER = Row(*CLOSED, ("halt", "w"))
LOUD = Row(*CLOSED)
WAITS = Row(*CLOSED, ("set", "f"), ("settle", "w"))
NAMED = Row(("take", "l"), ("give", "l"), *CLOSED, ("halt", "w"))
YES, NO, OPEN, UNLOCK = ("yes", "w", 0), ("no", "w", 0), ("open", "w", 0), ("unlock", "l")
WORK = ("work", "v", (USE,))
# A device with 4681 states, and more than 6000 if its row has one step more
WIDE = Device({name: (USE,) * 6 for name in "vwxy"}, armed=("v", "w", "x", "y"))
HALTS = Row(*[("halt", name) for name in "vwxy"])
LONGER = Row(("cancel", "v")) + HALTS


def told(keeper):
    """Return all that a keeper tells."""
    return keeper.device, keeper.row, keeper.answer, keeper.history(), len(keeper)


class Boom(Exception):
    """An error that is none of the program's."""


class KeeperTest(unittest.TestCase):
    def setUp(self):
        self.keeper = Keeper(DOOR, GOOD)
        self.first = told(self.keeper)

    def check(self, *history, device=None, row=None, answer="right"):
        """Look at what the keeper tells, the device and row being those of the history if they are not told."""
        made = DOOR
        last = GOOD
        for one in history:
            if isinstance(one, Row):
                last = one
            else:
                made = edited(made, one)
        self.assertEqual(told(self.keeper), (device or made, row or last, answer, list(history), len(history)))

    def refused(self, kind, call, **attributes):
        """Look at the error of a call that leaves everything as it was, and return it."""
        before = told(self.keeper)
        with self.assertRaises(kind) as caught:
            call()
        for name, value in attributes.items():
            self.assertEqual(getattr(caught.exception, name), value)
        self.assertEqual(told(self.keeper), before)
        return caught.exception


class TestMade(KeeperTest):
    def test_as_made(self):
        self.check()
        self.assertIs(self.keeper.device, DOOR)
        self.assertIs(self.keeper.row, GOOD)
        self.assertEqual(told(Keeper(row=GOOD, device=DOOR)), self.first)

    def test_not_right(self):
        for device, row in ((DOOR, LOUD), (DOOR, WAITS), (SELF, SETTLE), (CROSSED, CROSSED_ROW), (DOOR, Row())):
            with self.assertRaises(NotRight) as caught:
                Keeper(device, row)
            word, *paper = verdict(device, row)
            self.assertEqual((caught.exception.word, caught.exception.paper), (word, tuple(paper)))

    def test_errors_in_order(self):
        with self.assertRaises(UnknownName) as caught:
            Keeper(DEVICE, WRONG_NAMES)
        self.assertEqual(caught.exception.name, "g")
        with self.assertRaises(LimitExceeded) as caught:
            Keeper(Device({name: (USE,) * 8 for name in "vwxy"}, armed=("v", "w", "x", "y")), Row())
        self.assertEqual(caught.exception.limit, 6000)

    def test_the_limit_is_6000(self):
        self.assertEqual(len(Table(WIDE, HALTS)), 4681)
        self.assertEqual(Keeper(WIDE, HALTS).answer, "right")
        self.assertGreater(len(Table(WIDE, LONGER, limit=100000)), 6000)
        with self.assertRaises(LimitExceeded) as caught:
            Keeper(WIDE, LONGER)
        self.assertEqual(caught.exception.limit, 6000)


class TestChangeAndTake(KeeperTest):
    def test_change(self):
        self.assertIsNone(self.keeper.change(NO))
        self.check(NO)
        self.assertEqual(self.keeper.device["w"].code, (USE,))
        self.keeper.change(edit=UNLOCK)
        self.keeper.change(WORK)
        self.check(NO, UNLOCK, WORK)

    def test_take(self):
        self.assertIsNone(self.keeper.take(OTHER))
        self.check(OTHER)
        self.keeper.take(row=NAMED)
        self.keeper.change(YES)
        self.keeper.take(OTHER)
        self.check(OTHER, NAMED, YES, OTHER)

    def test_refused_edits(self):
        for value in strange_values() + [("yes", "w", 1), ("unlock", "k"), ("work", "w", (USE,)), OTHER, [NO]]:
            wrong = self.refused(InvalidEdit, lambda: self.keeper.change(value))
            self.assertIs(wrong.edit, value)
        self.keeper.change(NO)
        self.refused(InvalidEdit, lambda: self.keeper.change(NO), edit=NO)

    def test_refused_names(self):
        self.keeper.take(NAMED)
        self.refused(UnknownName, lambda: self.keeper.change(UNLOCK), name="l")
        self.keeper.change(NO)
        self.refused(UnknownName, lambda: self.keeper.take(WAITS), name="f")
        self.refused(UnknownName, lambda: self.keeper.take(WRONG_NAMES), name="door")
        self.check(NAMED, NO)

    def test_refused_as_not_right(self):
        for call, device, row in ((lambda: self.keeper.change(YES), edited(DOOR, YES), GOOD),
                                  (lambda: self.keeper.change(OPEN), edited(DOOR, OPEN), GOOD),
                                  (lambda: self.keeper.take(LOUD), DOOR, LOUD), (lambda: self.keeper.take(WAITS), DOOR, WAITS)):
            word, *paper = verdict(device, row)
            self.assertNotEqual(word, "right")
            self.refused(NotRight, call, word=word, paper=tuple(paper))
        self.check()

    def test_too_many_states(self):
        keeper = self.keeper = Keeper(WIDE, HALTS)
        self.refused(LimitExceeded, lambda: keeper.take(LONGER), limit=6000)
        self.refused(LimitExceeded, lambda: keeper.together([HALTS, LONGER, None]), limit=6000)
        with keeper.trial():
            keeper.take(HALTS)
            keeper.accept()
            self.refused(LimitExceeded, lambda: keeper.take(LONGER), limit=6000)
        self.assertEqual(keeper.history(), [HALTS])

    def test_too_many_states_of_an_edited_device(self):
        row = Row(*[("halt", name) for name in "uvwx"])
        works = {"u": (("test", "f", (USE,) * 7, ()),), **{name: (USE,) * 7 for name in "vwx"}}
        keeper = self.keeper = Keeper(Device(works, armed=("u", "v", "w", "x")), row)
        self.refused(LimitExceeded, lambda: keeper.change(("yes", "u", 0)), limit=6000)
        with keeper.trial():
            self.refused(LimitExceeded, lambda: keeper.change(("open", "u", 0)), limit=6000)


class TestUndo(KeeperTest):
    def test_one_at_a_time(self):
        self.keeper.take(OTHER)
        self.keeper.change(YES)
        self.keeper.change(UNLOCK)
        self.assertIsNone(self.keeper.undo())
        self.check(OTHER, YES)
        self.keeper.undo()
        self.check(OTHER)
        self.keeper.undo()
        self.assertEqual(told(self.keeper), self.first)

    def test_nothing_to_undo(self):
        for _ in range(2):
            self.refused(NothingToUndo, self.keeper.undo, name="undo")
            self.keeper.change(NO)
            self.keeper.undo()
        with self.keeper.trial():
            self.refused(NothingToUndo, self.keeper.undo, name="undo")

    def test_until_right_again(self):
        self.keeper.change(WORK)
        self.keeper.together([LOUD, WAITS, OTHER])
        self.check(WORK, LOUD, WAITS, OTHER)
        self.keeper.undo()
        self.check(WORK)
        self.keeper.together([LOUD, WAITS, OTHER, LOUD, OTHER])
        self.keeper.undo()
        self.check(WORK, LOUD, WAITS, OTHER)

    def test_in_trials_one_at_a_time(self):
        self.keeper.together([YES, OTHER])
        with self.keeper.trial():
            self.keeper.undo()
            self.check(YES, answer="waits")
            self.keeper.undo()
            self.check()
        self.check(YES, OTHER)

    def test_what_was_there_ahead_of_a_trial(self):
        self.keeper.change(NO)
        self.keeper.take(OTHER)
        with self.keeper.trial():
            self.keeper.undo()
            self.keeper.undo()
            self.keeper.change(UNLOCK)
            self.keeper.accept()
        self.check(UNLOCK)

    def test_a_history_is_a_new_list(self):
        self.keeper.change(NO)
        self.keeper.history().clear()
        self.check(NO)


class TestTrials(KeeperTest):
    def test_all_is_as_before(self):
        self.keeper.take(OTHER)
        before = told(self.keeper)
        with self.keeper.trial() as given:
            self.assertIs(given, self.keeper)
            self.keeper.change(YES)
            self.check(OTHER, YES)
            self.keeper.take(LOUD)
            self.check(OTHER, YES, LOUD, answer="loud")
            self.keeper.take(GOOD)
            self.check(OTHER, YES, LOUD, GOOD, answer="waits")
        self.assertEqual(told(self.keeper), before)
        self.refused(NotRight, lambda: self.keeper.take(LOUD))

    def test_an_error_passes_on(self):
        for error in (Boom, KeyError, GeneratorExit):
            with self.assertRaises(error):
                with self.keeper.trial():
                    self.keeper.take(LOUD)
                    raise error
            self.assertEqual(told(self.keeper), self.first)
        with self.assertRaises(Boom):
            with self.keeper.trial():
                self.keeper.take(OTHER)
                self.keeper.accept()
                raise Boom
        self.check(OTHER)

    def test_accepted(self):
        with self.keeper.trial():
            self.keeper.change(YES)
            self.keeper.take(OTHER)
            self.assertIsNone(self.keeper.accept())
            self.check(YES, OTHER)
        self.check(YES, OTHER)
        self.keeper.undo()
        self.check()

    def test_accept_of_what_is_not_right(self):
        with self.keeper.trial():
            self.keeper.take(LOUD)
            word, *paper = verdict(DOOR, LOUD)
            self.refused(NotRight, self.keeper.accept, word=word, paper=tuple(paper))
            self.keeper.take(WAITS)
            word, *paper = verdict(DOOR, WAITS)
            for _ in range(2):
                # What is told is changed, and told anew.
                wrong = self.refused(NotRight, self.keeper.accept, word=word, paper=tuple(paper))
                for one in wrong.paper:
                    one.clear()
        self.check()

    def test_accept_outside_of_trials(self):
        self.keeper.change(NO)
        self.assertIsNone(self.keeper.accept())
        with self.keeper.trial():
            self.keeper.take(OTHER)
        self.check(NO)

    def test_accepted_ahead_of_the_last_thing(self):
        for last in (lambda: self.keeper.change(UNLOCK), lambda: self.keeper.take(LOUD), self.keeper.undo):
            with self.keeper.trial():
                self.keeper.change(WORK)
                self.keeper.accept()
                last()
            self.check()
            with self.keeper.trial():
                self.keeper.change(WORK)
                last()
                if self.keeper.answer == "right":
                    self.keeper.accept()
                    self.keeper.accept()
            self.assertEqual(self.keeper.answer, "right")
            while len(self.keeper) > 0:
                self.keeper.undo()

    def test_taken_back_but_for_an_earlier_accept(self):
        with self.keeper.trial():
            self.keeper.change(WORK)
            self.keeper.accept()
            self.keeper.take(OTHER)
            self.keeper.undo()
            self.check(WORK)
        self.check()

    def test_refused_things_leave_an_accept(self):
        with self.keeper.trial():
            self.keeper.change(WORK)
            self.keeper.accept()
            self.refused(InvalidEdit, lambda: self.keeper.change(("no", "v", 0)))
            self.refused(UnknownName, lambda: self.keeper.take(WRONG_NAMES))
        self.check(WORK)
        self.keeper.undo()
        with self.keeper.trial():
            self.keeper.accept()
            self.refused(NothingToUndo, self.keeper.undo)
            self.refused(NotRight, lambda: self.keeper.together([LOUD]))
            self.refused(InvalidEdit, lambda: self.keeper.together([OTHER, None]))
        self.check()

    def test_two_withs(self):
        for _ in range(2):
            with self.keeper.trial():
                self.keeper.change(NO)
        with self.keeper.trial():
            self.keeper.change(NO)
            self.keeper.accept()
        self.check(NO)

    def test_not_right_only_within(self):
        with self.keeper.trial():
            with self.keeper.trial():
                pass
            self.keeper.take(LOUD)
        self.refused(NotRight, lambda: self.keeper.take(LOUD))
        with self.keeper.trial():
            with self.keeper.trial():
                self.keeper.accept()
            self.keeper.take(LOUD)
        self.refused(NotRight, lambda: self.keeper.take(LOUD))


class TestTrialsWithinOneAnother(KeeperTest):
    def nested(self, inner_accepts, ahead, behind, fails=False):
        """Do an edit, perhaps accept, another one in an inner trial, and perhaps accept behind it."""
        with self.keeper.trial():
            self.keeper.change(WORK)
            if ahead:
                self.keeper.accept()
            try:
                with self.keeper.trial():
                    self.keeper.change(UNLOCK)
                    if inner_accepts:
                        self.keeper.accept()
                    if fails:
                        raise Boom
            except Boom:
                pass
            self.check(*((WORK, UNLOCK) if inner_accepts else (WORK,)))
            if behind:
                self.keeper.accept()

    def test_all_ways(self):
        for fails in (False, True):
            for inner_accepts, ahead, behind, history in (
                    (False, False, False, ()), (True, False, False, ()), (False, False, True, (WORK,)),
                    (True, False, True, (WORK, UNLOCK)), (False, True, False, (WORK,)), (True, True, False, ()),
                    (True, True, True, (WORK, UNLOCK)), (False, True, True, (WORK,))):
                self.nested(inner_accepts, ahead, behind, fails)
                self.check(*history)
                while len(self.keeper) > 0:
                    self.keeper.undo()

    def test_an_accept_within_is_not_one_around(self):
        with self.keeper.trial():
            with self.keeper.trial():
                self.keeper.change(NO)
                self.keeper.accept()
            with self.keeper.trial():
                self.keeper.accept()
        self.check()

    def test_an_accept_within_that_came_too_early(self):
        with self.keeper.trial():
            self.keeper.change(WORK)
            self.keeper.accept()
            with self.keeper.trial():
                self.keeper.accept()
                self.keeper.take(OTHER)
        self.check(WORK)

    def test_an_accepted_trial_that_did_nothing(self):
        with self.keeper.trial():
            self.keeper.change(WORK)
            self.keeper.accept()
            with self.keeper.trial():
                self.keeper.accept()
        self.check()

    def test_a_trial_that_did_nothing(self):
        for fails in (False, True):
            with self.keeper.trial():
                self.keeper.change(WORK)
                self.keeper.accept()
                try:
                    with self.keeper.trial():
                        if fails:
                            raise Boom
                except Boom:
                    pass
                self.keeper.within(lambda given: None)
                self.keeper.attempt(lambda given: given.accept())
            self.check(WORK)
            self.keeper.undo()

    def test_an_accept_around_is_not_one_within(self):
        with self.keeper.trial():
            self.keeper.accept()
            with self.keeper.trial():
                self.keeper.change(WORK)
            self.check()
            self.keeper.change(NO)
            self.keeper.accept()
        self.check(NO)

    def test_three_levels(self):
        with self.keeper.trial():
            with self.keeper.trial():
                with self.keeper.trial():
                    self.keeper.change(NO)
                    self.keeper.accept()
                self.check(NO)
                self.keeper.take(OTHER)
                self.keeper.accept()
            self.check(NO, OTHER)
            self.keeper.accept()
        self.check(NO, OTHER)

    def test_undone_within(self):
        with self.keeper.trial():
            self.keeper.take(LOUD)
            self.keeper.take(WAITS)
            with self.keeper.trial():
                self.keeper.undo()
                self.check(LOUD, answer="loud")
                self.keeper.undo()
                self.keeper.accept()
            self.check()
        self.check()


class TestWithinAndAttempt(KeeperTest):
    def test_within(self):
        def visitor(given):
            self.assertIs(given, self.keeper)
            given.take(LOUD)
            return given.answer

        self.assertEqual(self.keeper.within(visitor), "loud")
        self.check()
        self.assertIsNone(self.keeper.within(visitor=lambda given: given.take(OTHER)))
        self.check()

    def test_within_accepted(self):
        def visitor(given):
            given.change(NO)
            given.accept()
            return [given]

        self.assertEqual(self.keeper.within(visitor), [self.keeper])
        self.check(NO)

    def test_within_an_error(self):
        def visitor(given):
            given.take(LOUD)
            raise Boom

        with self.assertRaises(Boom):
            self.keeper.within(visitor)
        self.check()

    def test_attempt(self):
        def visitor(given):
            self.assertIs(given, self.keeper)
            given.change(NO)
            given.take(OTHER)
            given.undo()
            return told(given)

        self.keeper.change(WORK)
        before = told(self.keeper)
        self.assertEqual(self.keeper.attempt(visitor)[3], [WORK, NO])
        self.assertEqual(told(self.keeper), before)
        self.assertIsNone(self.keeper.attempt(visitor=lambda given: given.undo()))
        self.assertEqual(told(self.keeper), before)

    def test_an_attempt_is_no_trial(self):
        self.refused(NotRight, lambda: self.keeper.attempt(lambda given: given.take(LOUD)))
        with self.keeper.trial():
            self.assertIsNone(self.keeper.attempt(lambda given: given.take(LOUD)))
            self.check()

    def test_attempt_with_an_error(self):
        def visitor(given):
            given.change(NO)
            raise Boom

        self.refused(Boom, lambda: self.keeper.attempt(visitor))

    def test_attempts_and_accepts(self):
        with self.keeper.trial():
            self.keeper.change(WORK)
            self.keeper.accept()
            self.keeper.attempt(lambda given: given.change(NO))
        self.check(WORK)
        with self.keeper.trial():
            self.keeper.change(NO)
            self.keeper.attempt(lambda given: given.accept())
        self.check(WORK)
        with self.keeper.trial():
            self.keeper.change(NO)
            self.keeper.accept()
            self.keeper.attempt(lambda given: given.together([OTHER]))
        self.check(WORK, NO)

    def test_trials_in_attempts(self):
        def visitor(given):
            given.within(lambda one: one.take(LOUD))
            given.together([LOUD, OTHER])
            self.check(LOUD, OTHER)
            given.attempt(lambda one: one.undo())
            self.check(LOUD, OTHER)

        self.keeper.attempt(visitor)
        self.check()


class TestTogether(KeeperTest):
    def test_all_of_them(self):
        changes = [YES, OTHER, WORK, UNLOCK]
        self.assertIsNone(self.keeper.together(changes))
        self.check(YES, OTHER, WORK, UNLOCK)
        self.assertEqual(changes, [YES, OTHER, WORK, UNLOCK])
        self.keeper.together(changes=[])
        self.check(YES, OTHER, WORK, UNLOCK)

    def test_what_is_not_right_amid(self):
        self.keeper.together([LOUD, YES, GOOD, OTHER])
        self.check(LOUD, YES, GOOD, OTHER)

    def test_none_of_them(self):
        for value in strange_values() + [NO, ("no", "w"), [OTHER], (OTHER,), "halt"]:
            wrong = self.refused(InvalidEdit, lambda: self.keeper.together([WORK, NO, value, OTHER]))
            self.assertIs(wrong.edit, value)
        # An edit of the device as it is at first, not as it is in its turn
        self.refused(InvalidEdit, lambda: self.keeper.together([NO, YES]), edit=YES)
        self.assertIsNone(self.keeper.together([WORK, ("no", "w", 0), ("work", "x", (("start", "v"),))]))

    def test_errors_of_the_others(self):
        self.refused(UnknownName, lambda: self.keeper.together([OTHER, WRONG_NAMES, None]), name="door")
        self.refused(UnknownName, lambda: self.keeper.together([NAMED, UNLOCK]), name="l")
        word, *paper = verdict(DOOR, LOUD)
        self.refused(NotRight, lambda: self.keeper.together([OTHER, LOUD]), word=word, paper=tuple(paper))
        self.refused(NotRight, lambda: self.keeper.together([YES]), word="waits")

    def test_in_a_trial(self):
        with self.keeper.trial():
            self.keeper.together([YES, OTHER])
            self.check(YES, OTHER)
        self.check()
        with self.keeper.trial():
            self.keeper.together([YES, OTHER])
            self.keeper.accept()
        self.check(YES, OTHER)
        with self.keeper.trial():
            self.keeper.change(WORK)
            self.keeper.accept()
            self.keeper.together([])
        self.check(YES, OTHER)


class Model:
    """What a keeper should tell, by the words of the document: every event has its number."""

    def __init__(self, device, row):
        self.start, self.history, self.trials, self.clock = (device, row), [], [], 0

    def tick(self):
        self.clock += 1
        return self.clock

    def state(self, history=None):
        device, row = self.start
        for one in self.history if history is None else history:
            device, row = (device, one) if isinstance(one, Row) else (slow_edited(device, one), row)
        return device, row, verdict(device, row)[0]

    def changed(self, history):
        self.history = history
        if self.trials:
            self.trials[-1]["changed"] = self.tick()

    def undo(self):
        history = self.history[:-1]
        while not self.trials and self.state(history)[2] != "right":
            history = history[:-1]
        self.changed(history)

    def accept(self):
        if self.trials:
            self.trials[-1]["accepted"] = self.tick()

    def begin(self):
        self.trials.append({"history": list(self.history), "changed": 0, "accepted": 0, "inner": 0})

    def end(self):
        trial = self.trials.pop()
        if trial["accepted"] > max(trial["changed"], trial["inner"]):
            if self.trials:
                self.trials[-1]["inner"] = self.tick()
        else:
            self.history = trial["history"]


class TestDraws(unittest.TestCase):
    def play(self, source, keeper, model, rows, levels):
        """Do some drawn things with a keeper and its model, trials and attempts within one another."""
        for _ in range(source.randint(1, 5)):
            what = source.choice(("change", "take", "take", "undo", "accept", "accept", "trial", "trial", "attempt"))
            if what in ("trial", "attempt"):
                if levels > 0:
                    self.nest(source, keeper, model, rows, levels - 1, what)
            else:
                self.do_one(source, keeper, model, rows, what)
            device, row, word = model.state()
            self.assertEqual(told(keeper), (device, row, word, model.history, len(model.history)))

    def nest(self, source, keeper, model, rows, levels, what):
        fails = source.random() < 0.3
        known = (list(model.history), [dict(trial) for trial in model.trials])

        def visitor(given):
            if what == "trial":
                model.begin()
            self.play(source, given, model, rows, levels)
            if fails:
                raise Boom

        try:
            (keeper.within if what == "trial" else keeper.attempt)(visitor)
            self.assertFalse(fails)
        except Boom:
            self.assertTrue(fails)
        if what == "trial":
            model.end()
        else:
            model.history, model.trials = known

    def do_one(self, source, keeper, model, rows, what):
        device, row, word = model.state()
        if what == "undo":
            if model.history:
                keeper.undo()
                model.undo()
            else:
                self.assertRaises(NothingToUndo, keeper.undo)
        elif what == "accept":
            if word == "right":
                keeper.accept()
                model.accept()
            else:
                self.assertRaises(NotRight, keeper.accept)
        else:
            done = source.choice(rows if what == "take" else edits(device) + [("work", "x", (USE,)), None])
            call = keeper.take if what == "take" else keeper.change
            try:
                new = model.state(model.history + [done])[2]
            except (UnknownName, TypeError, AttributeError) as wrong:
                self.assertRaises(UnknownName if isinstance(wrong, UnknownName) else InvalidEdit, call, done)
                return
            if new != "right" and not model.trials:
                self.assertRaises(NotRight, call, done)
            else:
                call(done)
                model.changed(model.history + [done])

    def test_against_the_model(self):
        source = random.Random(141)
        lengths = {}
        made = 0
        while made < 60:
            device = drawn_device(source)
            rows = [careful_row(source, device) for _ in range(4)] + [Row()]
            words = [slow_word(device, row, 50) for row in rows]
            if None in words or "right" not in words:
                continue
            made += 1
            row = rows[words.index("right")]
            keeper, model = Keeper(device, row), Model(device, row)
            for _ in range(3):
                try:
                    self.play(source, keeper, model, rows, 3)
                except LimitExceeded:
                    break
            self.assertEqual(keeper.answer, "right")
            lengths[len(keeper)] = lengths.get(len(keeper), 0) + 1
        self.assertGreater(sum(many for length, many in lengths.items() if length > 1), 10, lengths)

    def test_always_right(self):
        for device, row in draws(143, 200, (careful_row,)):
            if slow_word(device, row, 50) != "right":
                continue
            keeper = Keeper(device, row)
            for edit in edits(device):
                try:
                    keeper.change(edit)
                except (InvalidEdit, NotRight, UnknownName):
                    continue
                self.assertIn(slow_word(keeper.device, keeper.row, 200), ("right", None))
            while len(keeper):
                keeper.undo()
            self.assertEqual((keeper.device, keeper.row, keeper.answer), (device, row, "right"))


if __name__ == "__main__":
    unittest.main()

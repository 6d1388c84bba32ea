"""Keepers: a device and a row that is right for it, through edits and other rows, with trials."""

from takendown.edits import edited
from takendown.errors import NothingToUndo, NotRight
from takendown.rows import Row
from takendown.verdicts import check_right, verdict

LIMIT = 6000


class Keeper:
    """A device and a row, right for it but within trials, with the edits and rows by which they came about."""

    def __init__(self, device, row):
        check_right(device, row, LIMIT)
        # An entry is an edit or a row, the device and the row behind it, and the word of the verdict of these two.
        # Such a list is never changed: to remember it is to remember how all was.
        self._log = [(None, device, row, "right")]
        self._in_trial = False
        # True if the innermost trial is accepted as all is now, otherwise None. Outside of trials nobody asks for it.
        self._accepted = None

    @property
    def device(self):
        """The device as it is now."""
        return self._log[-1][1]

    @property
    def row(self):
        """The row as it is now."""
        return self._log[-1][2]

    @property
    def answer(self):
        """The word right, loud or waits of the device and the row as they are now."""
        return self._log[-1][3]

    def __len__(self):
        return len(self._log[1:])

    def history(self):
        """Return the list of the edits and rows, in order."""
        return [entry[0] for entry in self._log[1:]]

    def change(self, edit):
        """Edit the device."""
        self._go_on(edit, edited(self.device, edit), self.row)

    def take(self, row):
        """Go on with another row."""
        self._go_on(row, self.device, row)

    def _go_on(self, done, device, row):
        """Go on with the device and the row that come of an edit or a row; outside of trials if it is right."""
        told = verdict(device, row, limit=LIMIT)
        if told[0] != "right" and not self._in_trial:
            raise NotRight(told[0], told[1:])
        self._log = self._log + [(done, device, row, told[0])]
        self._accepted = None

    def undo(self):
        """Take back the last edit or row, outside of trials further ones until the row is right again."""
        if len(self) == 0:
            raise NothingToUndo("undo")
        log = self._log[:-1]
        while not self._in_trial and log[-1][3] != "right":
            log = log[:-1]
        self._log = log
        self._accepted = None

    def trial(self):
        """Return an object for one with, at whose end all is as at its beginning unless it was accepted."""
        return Trial(self)

    def accept(self):
        """Let what was done in the innermost trial stay."""
        check_right(self.device, self.row, LIMIT)
        self._accepted = True

    def within(self, visitor):
        """Call a function with the keeper in a trial, and return its result."""
        with self.trial() as keeper:
            return visitor(keeper)

    def together(self, changes):
        """Do the edits and rows of a list, all of them or none."""
        with self.trial():
            for one in changes:
                if isinstance(one, Row):
                    self.take(one)
                else:
                    self.change(one)
            self.accept()

    def attempt(self, visitor):
        """Call a function with the keeper, return its result, and leave the keeper as it was before."""
        log, accepted = self._log, self._accepted
        try:
            return visitor(self)
        finally:
            self._log = log
            self._accepted = accepted


class Trial:
    """How a keeper was when a trial began."""

    def __init__(self, keeper):
        self._keeper = keeper
        self._log = None
        self._in_trial = None
        self._accepted = None

    def __enter__(self):
        keeper = self._keeper
        self._log = keeper._log
        self._in_trial = keeper._in_trial
        self._accepted = keeper._accepted
        keeper._in_trial = True
        keeper._accepted = None
        return keeper

    def __exit__(self, kind, value, trace):
        if self._keeper._accepted is None:
            self._keeper._log = self._log
            self._keeper._accepted = self._accepted
        else:
            # What was accepted here is a change of the trial around.
            self._keeper._accepted = None
        self._keeper._in_trial = self._in_trial

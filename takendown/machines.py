"""Machines: counted runs that are played, with any number of users."""

from takendown.courses import course_of, is_single_move
from takendown.errors import InvalidMove, NothingToUndo, UnknownName
from takendown.items import is_name


def is_user_move(value):
    """Whether any value has the form of a move of one user, or of a work, a guest or the row."""
    return isinstance(value, tuple) and len(value) > 0 and isinstance(value[0], str) and is_single_move(value)


class Machine:
    """A device, its row, and the moves made so far."""

    def __init__(self, device, row):
        self._course = course_of(device, row)
        self._device = device
        self._row = row
        nobody = {crowd: (0,) * len(device[crowd]) for crowd in device.crowds()}
        # One entry behind each move: the move, the code of the occupied places, the numbers of the users,
        # the most that were inside, the touches. What an entry is made of never changes.
        self._log = [(None, self._course.first(), nobody, 0, 0)]

    def __call__(self, move):
        """Make a move."""
        _, code, counts, most, touches = self._log[-1]
        if not is_user_move(move):
            raise InvalidMove(move)
        ahead = self._course.behind(code, self._group_move(move))
        if ahead is None:
            raise InvalidMove(move)
        behind = self._moved(counts, move)
        most = max(most, users_in(behind))
        touches = touches + 1 if self._course.is_freed(code) else 0
        self._log.append((move, ahead, behind, most, touches))

    def _group_move(self, move):
        """Return the move of occupied places that a move of one user is."""
        if move[0] != "pass":
            return move
        _, crowd, place, _ = move
        counts = self._log[-1][2]
        return move + (crowd in counts and place < len(counts[crowd]) and counts[crowd][place] > 1,)

    def _moved(self, counts, move):
        """Return the numbers of the users behind a possible move."""
        if move[0] not in ("come", "pass"):
            return counts
        crowd = move[1]
        numbers = list(counts[crowd])
        if move[0] == "come":
            numbers[0] += 1
        else:
            place, way = move[2:]
            ahead = self._device[crowd].nexts(place)[way]
            numbers[place] -= 1
            if ahead < len(numbers):
                numbers[ahead] += 1
        return {**counts, crowd: tuple(numbers)}

    def moves(self):
        """Return the list of all possible moves."""
        code = self._log[-1][1]
        found = []
        for move, _ in self._course.onward(code):
            if move[0] != "pass":
                found.append(move)
            elif not move[4]:
                found.append(move[:4])
        return found

    def state(self):
        """Return the state, with the occupied places only."""
        return self._course.state_of(self._log[-1][1])

    def counts(self, crowd):
        """Return the tuple of the numbers of the users at the places of a crowd."""
        counts = self._log[-1][2]
        if not is_name(crowd) or crowd not in counts:
            raise UnknownName(crowd)
        return counts[crowd]

    def made(self):
        """Return the list of the moves made."""
        return [entry[0] for entry in self._log[1:]]

    @property
    def freed(self):
        """Whether the device is freed."""
        return self._course.is_freed(self._log[-1][1])

    @property
    def inside(self):
        """How many users are inside."""
        return users_in(self._log[-1][2])

    @property
    def most(self):
        """The greatest number of users that were inside at once."""
        return self._log[-1][3]

    @property
    def touches(self):
        """The number of moves made since the device was freed."""
        return self._log[-1][4]

    def copy(self):
        """Return an independent machine."""
        other = Machine(self._device, self._row)
        other._log = list(self._log)
        return other

    def attempt(self, visitor):
        """Call a function with the machine, return its result, and leave the machine as it was before."""
        before = list(self._log)
        try:
            return visitor(self)
        finally:
            self._log = before

    def back(self):
        """Take back the last move."""
        if len(self._log) == 1:
            raise NothingToUndo("back")
        del self._log[-1]


def users_in(counts):
    """Return how many users a dict from crowds to their numbers at all places tells."""
    return sum([sum(numbers) for numbers in counts.values()])


def play(device, row, chosen):
    """Return a machine that has made the moves of a list."""
    machine = Machine(device, row)
    for move in chosen:
        machine(move)
    return machine

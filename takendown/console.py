"""The console: a bench by commands and answers, which are texts."""

from takendown.bench import Bench
from takendown.errors import InvalidCommand
from takendown.rows import Row
from takendown.shorts import short_paper
from takendown.texts import read_device, read_row, write_device, write_row
from takendown.threads import check_name
from takendown.users import fewest_users

SLASH = " / "

# The number of words of each command; behind the first two of device and row comes a text of any number.
WORD_COUNTS = {"device": 2, "row": 2, "drop": 2, "names": 1, "show": 2, "ask": 3, "users": 3, "short": 3}
TEXT_WORDS = ("device", "row")


def words_of(command):
    """Return the list of the words of any value that should be a command."""
    if not isinstance(command, str) or "\n" in command or "\t" in command:
        raise InvalidCommand(None)
    words = command.split(" ")
    if "" in words:
        raise InvalidCommand(None)
    if words[0] not in WORD_COUNTS or not is_count(words[0], len(words)):
        raise InvalidCommand(words[0])
    return words


def is_count(word, many):
    """Whether a command with some first word may have so many words."""
    return many >= WORD_COUNTS[word] if word in TEXT_WORDS else many == WORD_COUNTS[word]


def answer_of(told):
    """Return the answer that tells a verdict."""
    if told[0] == "loud":
        return "loud " + str(len(told[1]))
    if told[0] == "waits":
        return "waits dead" if len(told[2]) == 0 else "waits round"
    return "right"


class Console:
    """Answers commands about the things of a bench."""

    def __init__(self):
        self._bench = Bench()

    @property
    def bench(self):
        """The bench."""
        return self._bench

    def run(self, command):
        """Return the answer of a command."""
        words = words_of(command)
        word = words[0]
        if word in TEXT_WORDS:
            return self._keep(word, words[1], " ".join(words[2:]))
        if word == "names":
            return " ".join(self._bench.names()) if len(self._bench) > 0 else "-"
        if word == "drop":
            self._bench.drop(words[1])
            return "ok"
        if word == "show":
            return self._shown(words[1])
        return self._told(word, words[1], words[2])

    def _keep(self, word, name, text):
        """Keep the device or the row that a text tells."""
        check_name(name)
        thing = read_row(text) if word == "row" else read_device("\n".join(text.split(SLASH)))
        self._bench.keep(name, thing)
        return "ok"

    def _shown(self, name):
        """Return the text of what is kept under a name."""
        thing = self._bench[name]
        if isinstance(thing, Row):
            return write_row(thing)
        return SLASH.join(write_device(thing).split("\n"))

    def _told(self, word, name, other):
        """Return the answer to a question about a device and a row."""
        device, row = self._bench.pair(name, other)
        if word == "ask":
            return answer_of(self._bench.ask(name, other))
        if word == "users":
            told = fewest_users(device, row, limit=self._bench.bound)
            return "-" if told is None else str(told[0])
        return "no" if short_paper(device, row) is None else "yes"

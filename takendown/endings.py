"""Endings: papers that tell why everybody who moves again and again leaves the states in which a row waits."""

from takendown.courses import code_in, course_of
from takendown.errors import InvalidState
from takendown.items import is_index, is_name
from takendown.knots import judged, paper_of_states
from takendown.links import Links, is_dead_code, is_stuck, parts_within
from takendown.searches import checked_search


def ending_of(device, row, *, limit=6000):
    """Return an ending paper for the waiting states of the table of all states, or None if the row waits."""
    course = course_of(device, row)
    paper = judged(device, course, checked_search(course, limit))[1]
    return None if paper is None else paper_of_states(course, paper)


def is_ending(device, row, states, value):
    """Return whether any value is an ending paper for the waiting ones of some states, none of them a dead stand."""
    reader = Reader(device, row)
    codes = [code for code in reader.codes_for(states) if is_stuck(reader.course, code)]
    if any([is_dead_code(reader.course, code) for code in codes]):
        return False
    return is_paper(reader, Links(device, reader.course, codes), codes, (), value)


def parts(device, row, states, spent):
    """Return the list of the lists of states that lead to one another, by which each link leads on."""
    reader = Reader(device, row)
    codes = reader.codes_for(states)
    links = Links(device, reader.course, codes).within(codes, tuple(spent))
    return [[reader.course.state_of(code) for code in part] for part in parts_within(links)]


class Reader:
    """Reads any values that should be states of a device and a row, or places of its crowds."""

    def __init__(self, device, row):
        self.course = course_of(device, row)
        self._device = device

    def codes_for(self, states):
        """Return the list of the codes of any value that should be a list of states, each once."""
        if not isinstance(states, list):
            raise InvalidState(states)
        found = {}
        for state in states:
            found[code_in(self.course, state)] = True
        return list(found)

    def is_spot(self, crowd, place):
        """Whether any two values are a crowd and one of its places."""
        return is_name(crowd) and crowd in self._device.crowds() and is_index(place, len(self._device[crowd]))


def is_paper(reader, links, codes, spent, value):
    """Whether any value is an ending paper for some codes and spent places."""
    if not isinstance(value, list) or not all([is_part(part) for part in value]):
        return False
    read = [[reader.course.code_of(state) for state in states] for states, _, _ in value]
    within = links.within(codes, spent)
    number = {}
    for at, part in enumerate(read):
        for code in part:
            if code not in within or code in number:
                return False
            number[code] = at
    if len(number) < len(codes) or any([number[link[3]] < number[code] for code in codes for link in within[code]]):
        return False
    return all([
        is_reasoned(reader, links, part, spent, reason, inner) for part, (_, reason, inner) in zip(read, value)
    ])


def is_part(value):
    """Whether any value is a tuple of a list and two things more."""
    return isinstance(value, tuple) and len(value) == 3 and isinstance(value[0], list)


def is_reasoned(reader, links, part, spent, reason, inner):
    """Whether any two values are a reason why no fair run stays in a part, and the ending paper that it asks for."""
    within = links.within(part, spent)
    made = [link for code in part for link in within[code]]
    if reason is None:
        return len(part) == 1 and len(made) == 0 and isinstance(inner, list) and len(inner) == 0
    if not isinstance(reason, tuple) or len(reason) < 2 or not isinstance(reason[0], str):
        return False
    if reason[0] == "moves" and len(reason) == 2:
        rest = left_by(reader, links, part, made, reason[1])
        return rest is not None and is_paper(reader, links, rest, spent, inner)
    if reason[0] != "left" or len(reason) != 3 or not reader.is_spot(reason[1], reason[2]):
        return False
    spot = reason[1:]
    if spot in spent or any([link[2] == spot for link in made]):
        return False
    return is_paper(reader, links, part, spent + (spot,), inner)


def left_by(reader, links, part, made, mover):
    """Return the list of those of a part in which a mover cannot move, None if it is none, never can, or does."""
    if isinstance(mover, tuple):
        if len(mover) != 2 or not reader.is_spot(mover[0], mover[1]):
            return None
    elif not is_name(mover):
        return None
    rest = [code for code in part if mover not in links.able(code)]
    if len(rest) == len(part) or any([link[1] == mover for link in made]):
        return None
    return rest

"""Schemes: how the states of a device are written as integers, and the rules by which moves change these.

A move then is a matter of a few bits, so that tables of many states are made in little time.
"""

from takendown.forms import Form

PLACE_BITS = 4
COUNT_BITS = 4
DONE_BITS = 4


def listed_spots(device, most):
    """Return the list of tuples (key, bits) of all that a code tells, with the number of the bits it takes.

    A place is one more than it is, 0 if there is none. Of the places of crowds it is told whether
    they are occupied if most is None, otherwise by how many users.
    """
    found = [(("flag", flag), 1) for flag in device.flags()]
    found.extend([(("lock", lock), 1) for lock in device.locks()])
    found.extend([(("gate", gate), 1) for gate in device.gates()])
    found.extend([(("armed", work), 1) for work in device.works()])
    found.extend([(("place", name), PLACE_BITS) for name in device.works() + device.guests()])
    many = 1 if most is None else COUNT_BITS
    found.extend([(("users", name, at), many) for name in device.crowds() for at in range(len(device[name]))])
    if most is not None:
        found.append((("room", ""), COUNT_BITS))
    # The steps done come last, at the top, where a shift alone tells them.
    found.append((("done", ""), DONE_BITS))
    return found


def joint_paths(paths, others):
    """Return the list of all paths that are one of these and then one of those, but those with two minds of a flag."""
    return [
        (mask | more, want | wanted, put | added)
        for mask, want, put in paths
        for more, wanted, added in others
        if (want ^ wanted) & mask & more == 0
    ]


def paths_of(bits, item):
    """Return the list of the paths (mask, want, put) through an item of a piece."""
    if item[0] == "use":
        return [(0, 0, 0)]
    if item[0] == "start":
        return [(0, 0, bits[("armed", item[1])])]
    flag = bits[("flag", item[1])]
    yes = joint_paths([(flag, flag, 0)], paths_through(bits, item[2]))
    no = joint_paths([(flag, 0, 0)], paths_through(bits, item[3]))
    return yes + no


def paths_through(bits, items):
    """Return the list of the paths (mask, want, put) through the items of a piece, as its flags may be."""
    found = [(0, 0, 0)]
    for item in items:
        found = joint_paths(found, paths_of(bits, item))
    return found


def plain_change(bits, word, name):
    """Return the change (mask, want, clear, put) of an item or step that is about one work, flag or lock.

    Of the bits in mask just those in want must be set; then those in clear are cleared, and those in put set.
    """
    if word == "start":
        return (0, 0, 0, bits[("armed", name)])
    if word == "cancel":
        return (0, 0, bits[("armed", name)], 0)
    if word == "set":
        return (0, 0, 0, bits[("flag", name)])
    if word == "clear":
        return (0, 0, bits[("flag", name)], 0)
    lock = bits[("lock", name)]
    return (lock, 0, 0, lock) if word == "take" else (0, 0, lock, 0)


def item_changes(bits, item):
    """Return the list of tuples (way, mask, want, clear, put) of all that an item may do."""
    word = item[0]
    if word == "use":
        return [(0, 0, 0, 0, 0)]
    if word == "choose":
        return [(0, 0, 0, 0, 0), (1, 0, 0, 0, 0)]
    if word == "test":
        flag = bits[("flag", item[1])]
        return [(0, flag, flag, 0, 0), (1, flag, 0, 0, 0)]
    if word == "piece":
        lock = bits[("lock", item[1])]
        return [(0, mask | lock, want, 0, put) for mask, want, put in paths_through(bits, item[2])]
    return [(0,) + plain_change(bits, word, item[1])]


def step_change(scheme, device, step):
    """Return the change (mask, want, clear, put) of a step of a row, but for what it adds to the steps done."""
    word, name = step
    if word == "bar":
        return (0, 0, 0, 0)
    if word == "halt":
        return (scheme.fields[("place", name)], 0, scheme.bits[("armed", name)], 0)
    if word == "settle":
        return (scheme.fields[("place", name)] | scheme.bits[("armed", name)], 0, 0, 0)
    if word == "close":
        return (0, 0, 0, scheme.bits[("gate", name)])
    if word == "drain":
        return (sum([scheme.inside_bits(device[user]) for user in device.users_of(name)]), 0, 0, 0)
    return plain_change(scheme.bits, word, name)


def rules_of_single(bits, fields, thread):
    """Return the list of the rules of a work or guest."""
    name = thread.label
    place, field = bits[("place", name)], fields[("place", name)]
    if thread.kind() == "work":
        armed = bits[("armed", name)]
        found = [(("begin", name), field | armed, armed, 0, ~armed, place, 0)]
    else:
        found = [(("enter", name), field | bits[("gate", thread.gate)], 0, 0, ~0, place, 0)]
    for at in range(len(thread)):
        for way, mask, want, clear, put in item_changes(bits, thread.item(at)):
            follows = thread.nexts(at)[way]
            there = place * (follows + 1) if follows < len(thread) else 0
            here = place * (at + 1)
            found.append((("go", name, way), mask | field, want | here, 0, ~(clear | field), put | there, 0))
    return found


def changes_of_crowd(bits, crowd):
    """Return the list of tuples (move, mask, want, put, here, ahead) of a crowd, its passes without stay.

    The users come from the place of the bit here to that of the bit ahead; outside is where the room is.
    """
    name = crowd.label
    outside = bits.get(("room", ""), 0)
    found = [(("come", name), bits[("gate", crowd.gate)], 0, 0, outside, bits[("users", name, 0)])]
    for at in range(len(crowd)):
        here = bits[("users", name, at)]
        for way, mask, want, _, put in item_changes(bits, crowd.item(at)):
            ahead = bits.get(("users", name, crowd.nexts(at)[way]), outside)
            found.append((("pass", name, at, way), mask, want, put, here, ahead))
    return found


def rules_for_sets(change):
    """Return the list of the rules for occupied places of a change of a crowd."""
    move, mask, want, put, here, ahead = change
    if move[0] == "come":
        return [(move, mask, want, 0, ~0, put | ahead, 0)]
    return [
        (move + (stay,), mask | here, want | here, 0, ~0 if stay else ~here, put | ahead, 0) for stay in (False, True)
    ]


def rules_for_counts(change, fields):
    """Return the list of the one rule for counted users of a change of a crowd; fields are by their lowest bits."""
    move, mask, want, put, here, ahead = change
    return [(move, mask, want, fields[here], ~0, put, ahead - here)]


def first_code(device, bits, most):
    """Return the code of the first state."""
    told = [bits[("flag", flag)] for flag in device.flagged] + [bits[("armed", work)] for work in device.armed]
    return sum(told) if most is None else sum(told) + bits[("room", "")] * most


class Scheme:
    """How the states of a device are written as integers, their codes; counted ones of at most most users.

    bits and fields tell the lowest bit, and all bits, of what is told of it; form reads and writes
    states; start is the code of the first state. A rule is a tuple (move, mask, want, some, keep, put, add):
    of the bits in mask just those in want must be set, and one of those in some, if there are any;
    then those in keep remain, those in put are set unless they arm a barred work, and add is added.
    by_move has the rules of each move, of which one fits at most.
    """

    def __init__(self, device, most=None):
        self.bits = {}
        self.fields = {}
        low = 1
        for key, many in listed_spots(device, most):
            self.bits[key] = low
            self.fields[key] = (low << many) - low
            low = low << many
        self.rules = []
        for name in device.works() + device.guests():
            self.rules.extend(rules_of_single(self.bits, self.fields, device[name]))
        by_bit = {self.bits[key]: self.fields[key] for key in self.bits}
        for name in device.crowds():
            for change in changes_of_crowd(self.bits, device[name]):
                self.rules.extend(rules_for_sets(change) if most is None else rules_for_counts(change, by_bit))
        self.by_move = {}
        for rule in self.rules:
            self.by_move.setdefault(rule[0], []).append(rule)
        self.form = Form(device, self.bits, self.fields, most)
        self.start = first_code(device, self.bits, most)

    def inside_bits(self, user):
        """Return all bits that tell where a guest, or the users of a crowd, are inside."""
        if user.kind() == "guest":
            return self.fields[("place", user.label)]
        return sum([self.fields[("users", user.label, at)] for at in range(len(user))])

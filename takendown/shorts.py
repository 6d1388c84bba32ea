"""Short papers: an order of the locks, and an end for each work, that are enough for a row to be right."""

from takendown.errors import InvalidNumber
from takendown.items import is_index, is_name
from takendown.rows import fits


def arrows(device):
    """Return the ascending list of all tuples (thread, work) such that the thread may start the work."""
    return sorted([(thread, work) for work in device.works() for thread in device.starters(work)])


def lock_pairs(device, row):
    """Return the ascending list of all tuples (lock, other) such that other is taken while lock is held."""
    fits(device, row)
    found = {}
    for index, (word, name) in enumerate(row.steps()):
        if word == "take":
            found.update({(lock, name): True for lock in row.held(index)})
    for thread in device.works() + device.guests():
        body = device[thread]
        for place in range(len(body)):
            item = body.item(place)
            if item[0] == "take":
                found.update({(lock, item[1]): True for lock in body.held(place)})
    return sorted(found)


def lock_order(device, row):
    """Return a tuple of all locks, each ahead of those that are taken while it is held, or None."""
    pairs = lock_pairs(device, row)
    found = ()
    rest = device.locks()
    while len(rest) > 0:
        first = [lock for lock in rest if not any([other == lock and one in rest for one, other in pairs])]
        if len(first) == 0:
            return None
        found = found + (first[0],)
        rest = [lock for lock in rest if lock != first[0]]
    return found


def short_paper(device, row):
    """Return a short paper, or None."""
    locks = lock_order(device, row)
    if locks is None or not are_gates_shut(device, row) or not is_row_free(row):
        return None
    steps = row.steps()
    choices = [()]
    for work in device.works():
        indexes = [index for index in range(len(steps)) if steps[index] in (("halt", work), ("settle", work))]
        choices = [ends + (index,) for ends in choices for index in indexes]
    for ends in choices:
        if are_ends(device, row, ends):
            return (locks, ends)
    return None


def is_short(device, row, value):
    """Return whether any value is a short paper."""
    fits(device, row)
    if not isinstance(value, tuple) or len(value) != 2:
        return False
    locks, ends = value
    if not is_tuple_of_locks(device, locks) or not is_tuple_of_indexes(device, row, ends):
        return False
    if not all([locks.index(one) < locks.index(other) for one, other in lock_pairs(device, row)]):
        return False
    return are_gates_shut(device, row) and is_row_free(row) and are_ends(device, row, ends)


def is_tuple_of_locks(device, value):
    """Whether any value is a tuple of all locks, each once."""
    return isinstance(value, tuple) and all([is_name(lock) for lock in value]) and sorted(value) == device.locks()


def is_tuple_of_indexes(device, row, value):
    """Whether any value is a tuple with an index of a step for each work."""
    if not isinstance(value, tuple) or len(value) != len(device.works()):
        return False
    return all([is_index(index, len(row)) for index in value])


def is_shut(row, gate, index):
    """Whether a gate is closed and then drained by steps ahead of an index."""
    ahead = row.steps()[:index]
    if ("close", gate) not in ahead:
        return False
    return ("drain", gate) in ahead[ahead.index(("close", gate)):]


def are_gates_shut(device, row):
    """Whether each gate is closed and then drained, and no drain stands ahead of all closes of its gate."""
    steps = row.steps()
    if not all([is_shut(row, gate, len(steps)) for gate in device.gates()]):
        return False
    return all([("close", name) in steps[:index] for index, (word, name) in enumerate(steps) if word == "drain"])


def is_row_free(row):
    """Whether the row holds no lock where it may have to wait for others."""
    return all([len(row.held(index)) == 0 for index, (word, _) in enumerate(row.steps())
                if word in ("halt", "settle", "drain")])


def are_ends(device, row, ends):
    """Whether the steps of some indexes end the works, and each settle comes about."""
    steps = row.steps()
    for work, index in zip(device.works(), ends):
        if steps[index] not in (("halt", work), ("settle", work)):
            return False
        if ("bar", work) not in steps[:index] and not is_alone(device, row, ends, index, work):
            return False
    for index, (word, work) in enumerate(steps):
        if word == "settle" and ("bar", work) not in steps[:index]:
            if work in device.starters(work) or not is_alone(device, row, ends, index, work):
                return False
    return True


def left_alone(device, row, ends, index, work):
    """Return whether a work is left alone at a step."""
    fits(device, row)
    if not is_index(index, len(row)):
        raise InvalidNumber(index)
    return is_alone(device, row, ends, index, work)


def is_alone(device, row, ends, index, work):
    """Whether a work is left alone at a step; raises UnknownName for any value that is no work."""
    end_by_work = dict(zip(device.works(), ends))
    for thread in device.starters(work):
        if thread in end_by_work:
            end = end_by_work[thread]
            if thread != work and (end is None or end >= index):
                return False
        elif not is_shut(row, device[thread].gate, index):
            return False
    return True

"""States and moves a second time, straight from the words of the document and slowly, to compare the program with."""

from reference import laid_out, locks_held, next_places

class View:
    """A state that can be changed part by part."""

    def __init__(self, device, row, state):
        works, flags, guests, crowds, self.done = state
        self.device, self.row = device, row
        self.armed = {name: one[0] for name, one in zip(device.works(), works)}
        self.at = {name: one[1] for name, one in zip(device.works(), works)}
        self.at.update(zip(device.guests(), guests))
        self.flags = dict(zip(device.flags(), flags))
        self.crowds = {name: set(places) for name, places in zip(device.crowds(), crowds)}

    def state(self):
        return (
            tuple((self.armed[name], self.at[name]) for name in self.device.works()),
            tuple(self.flags[name] for name in self.device.flags()),
            tuple(self.at[name] for name in self.device.guests()),
            tuple(tuple(sorted(self.crowds[name])) for name in self.device.crowds()),
            self.done,
        )

    def past(self):
        return self.row.steps()[:self.done]

    def holders(self):
        """Return the list of (lock, holder)."""
        taken = []
        for word, name in self.past():
            if word == "take":
                taken.append(name)
            elif word == "give":
                taken.remove(name)
        found = [(lock, "") for lock in taken]
        for name, place in self.at.items():
            if place is not None:
                found.extend((lock, name) for lock in locks_held(laid_out(self.device[name].code), place))
        return found

    def is_free(self, lock):
        return lock not in [held for held, _ in self.holders()]

    def is_closed(self, gate):
        return ("close", gate) in self.past()

    def is_empty(self, gate):
        return not any(
            self.at.get(name) is not None or self.crowds.get(name)
            for name in self.device.guests() + self.device.crowds() if self.device[name].gate == gate)

    def do(self, item):
        """Do an item that changes something, or a step likewise."""
        word = item[0]
        if word == "start" and ("bar", item[1]) not in self.past():
            self.armed[item[1]] = True
        elif word in ("cancel", "halt"):
            self.armed[item[1]] = False
        elif word in ("set", "clear"):
            self.flags[item[1]] = word == "set"
        elif word == "test":
            for one in item[2 if self.flags[item[1]] else 3]:
                self.do(one)
        elif word == "piece":
            for one in item[2]:
                self.do(one)

    def ways(self, item):
        """Return the ways in which the next item of somebody is possible."""
        if item[0] in ("take", "piece") and not self.is_free(item[1]):
            return []
        if item[0] == "test":
            return [0 if self.flags[item[1]] else 1]
        return [0, 1] if item[0] == "choose" else [0]


def changed(device, row, state, change):
    view = View(device, row, state)
    change(view)
    return view.state()


def item_and_next(device, name, place, way):
    laid = laid_out(device[name].code)
    places = next_places(laid, place)
    ahead = places[way] if way < len(places) else None
    return laid[place][0], (None if ahead == len(laid) else ahead)


def moves_of_single(view, name):
    """Yield (move, change) of a work or guest."""
    place = view.at[name]
    if name in view.armed and place is None and view.armed[name]:
        def begin(other):
            other.armed[name] = False
            other.at[name] = 0
        yield ("begin", name), begin
    if name not in view.armed and place is None and not view.is_closed(view.device[name].gate):
        yield ("enter", name), lambda other: other.at.update({name: 0})
    if place is not None:
        for way in view.ways(item_and_next(view.device, name, place, 0)[0]):
            item, ahead = item_and_next(view.device, name, place, way)

            def go(other, item=item, ahead=ahead):
                if item[0] != "test":
                    other.do(item)
                other.at[name] = ahead
            yield ("go", name, way), go


def moves_of_crowd(view, name):
    """Yield (move, change) of a crowd."""
    if not view.is_closed(view.device[name].gate):
        yield ("come", name), lambda other: other.crowds[name].add(0)
    for place in sorted(view.crowds[name]):
        for way in view.ways(item_and_next(view.device, name, place, 0)[0]):
            item, ahead = item_and_next(view.device, name, place, way)
            for stay in (False, True):
                def passing(other, item=item, ahead=ahead, place=place, stay=stay):
                    if item[0] != "test":
                        other.do(item)
                    if not stay:
                        other.crowds[name].discard(place)
                    if ahead is not None:
                        other.crowds[name].add(ahead)
                yield ("pass", name, place, way, stay), passing


def is_step_possible(view):
    steps = view.row.steps()
    if view.done >= len(steps):
        return view.done == len(steps)
    word, name = steps[view.done]
    if word == "halt":
        return view.at[name] is None
    if word == "settle":
        return view.at[name] is None and not view.armed[name]
    if word == "drain":
        return view.is_empty(name)
    return word != "take" or view.is_free(name)


def slow_moves(device, row, state):
    """Return the list of (move, state behind it) of all possible moves."""
    view = View(device, row, state)
    found = [one for name in device.works() + device.guests() for one in moves_of_single(view, name)]
    found += [one for name in device.crowds() for one in moves_of_crowd(view, name)]
    if is_step_possible(view):
        def step(other):
            if other.done < len(row):
                word, name = row[other.done]
                if word not in ("take", "give"):
                    other.do((word, name))
            other.done += 1
        found.append((("step",), step))
    return [(move, changed(device, row, state, change)) for move, change in found]


def slow_first(device):
    return (
        tuple((name in device.armed, None) for name in device.works()),
        tuple(name in device.flagged for name in device.flags()),
        tuple(None for _ in device.guests()),
        tuple(() for _ in device.crowds()),
        0,
    )


def slow_is_quiet(device, row, state):
    works, _, guests, crowds, done = state
    return (all(one == (False, None) for one in works) and not any(place is not None for place in guests)
            and not any(crowds) and all(("close", gate) in row.steps()[:done] for gate in device.gates()))


def sets_of(state):
    """Return the state of a counted state."""
    works, flags, guests, crowds, done = state
    places = tuple(tuple(place for place, many in enumerate(one) if many) for one in crowds)
    return (works, flags, guests, places, done)


def slow_counted_moves(device, row, most, state):
    """Return the list of (move, counted state behind it) of all moves of at most most users, most None for any."""
    counts = {name: list(one) for name, one in zip(device.crowds(), state[3])}
    found = []
    for move, ahead in slow_moves(device, row, sets_of(state)):
        numbers = {name: list(one) for name, one in counts.items()}
        if move[0] == "come":
            if sum(map(sum, counts.values())) == most:
                continue
            numbers[move[1]][0] += 1
        elif move[0] == "pass":
            _, crowd, place, way, stay = move
            if stay != (counts[crowd][place] > 1):
                continue
            move = move[:4]
            numbers[crowd][place] -= 1
            _, there = item_and_next(device, crowd, place, way)
            if there is not None:
                numbers[crowd][there] += 1
        told = tuple(tuple(numbers[name]) for name in device.crowds())
        found.append((move, ahead[:3] + (told,) + ahead[4:]))
    return found


def slow_counted_first(device):
    first = slow_first(device)
    return first[:3] + (tuple((0,) * len(device[name]) for name in device.crowds()), 0)


def searched(first, onward, most_states):
    """Return the dict from all states but freed ones to their depths, None if there are more than most_states."""
    depths = {first: 0}
    queue = [first]
    for state in queue:
        for _, ahead in onward(state):
            if ahead not in depths:
                depths[ahead] = depths[state] + 1
                queue.append(ahead)
        if len(depths) > most_states:
            return None
    return depths


def slow_table(device, row, most_states=3000):
    """Return the dict from all states before the free to their depths, None if there are too many."""
    def onward(state):
        return [(move, ahead) for move, ahead in slow_moves(device, row, state) if ahead[4] <= len(row)]
    return searched(slow_first(device), onward, most_states)


def slow_counted_table(device, row, most, most_states=3000):
    """Return the dict from all counted states before the free to their depths, None if there are too many."""
    def onward(state):
        return [one for one in slow_counted_moves(device, row, most, state) if one[1][4] <= len(row)]
    return searched(slow_counted_first(device), onward, most_states)


def slow_loud_length(device, row, depths, to_sets=None):
    """Return the number of moves of a shortest loud run, or None, out of the depths of all states."""
    return min((depth + 1 for state, depth in depths.items()
                if state[4] == len(row) and not slow_is_quiet(device, row, to_sets(state) if to_sets else state)),
               default=None)

"""Drawn devices and rows, and devices that several tests use. Equal seeds give equal draws."""

import random

from takendown.devices import Device
from takendown.errors import InvalidDevice, InvalidStep
from takendown.rows import Row

USE = ("use",)
LOCKED = (("take", "l"), USE, ("give", "l"))

# Everything at once: tests, chooses, locks, pieces, two crowds and a guest of one gate
DEVICE = Device(
    {"v": (("test", "on", (("take", "l"), ("cancel", "w"), ("give", "l")), ()), ("clear", "on")),
     "w": (("choose", (("set", "on"),), (("start", "v"),)),)},
    {"g": ("door", LOCKED)},
    {"b": ("door", (("piece", "l", (("test", "on", (("start", "v"),), (("start", "w"), USE)),)), USE)),
     "c": ("door", (("choose", (USE,), ()), ("test", "up", (("start", "w"),), ())))},
    armed=("w",), flags=("up",))
ROW = Row(("close", "door"), ("drain", "door"), ("bar", "w"), ("take", "l"), ("clear", "up"), ("give", "l"),
          ("halt", "w"), ("settle", "v"))


def drawn_inner(source, works, many):
    """Return a tuple of items for within a piece."""
    found = []
    for _ in range(source.randint(1, many)):
        word = source.choice(("use", "start", "start", "test"))
        if word == "use":
            found.append(USE)
        elif word == "start":
            found.append(("start", source.choice(works)))
        else:
            found.append(("test", source.choice("fg"), (("start", source.choice(works)),), ()))
    return tuple(found)


def drawn_items(source, works, many, crowd, levels=2):
    """Return a tuple of up to so many items."""
    words = ["use", "start", "start", "test", "choose"]
    words += ["piece"] if crowd else ["cancel", "set", "clear", "lock", "lock"]
    found = []
    for _ in range(source.randint(0, many)):
        word = source.choice(words)
        if word == "use" or (word in ("test", "choose") and levels == 0):
            found.append(USE)
        elif word in ("start", "cancel"):
            found.append((word, source.choice(works)))
        elif word in ("set", "clear"):
            found.append((word, source.choice("fg")))
        elif word == "piece":
            found.append((word, source.choice("kl"), drawn_inner(source, works, 2)))
        elif word == "lock":
            lock = source.choice("kl")
            held = tuple(one for one in drawn_items(source, works, 1, crowd, 0))
            found.extend((("take", lock), *held, ("give", lock)))
        else:
            first = drawn_items(source, works, 1, crowd, levels - 1)
            second = drawn_items(source, works, 1, crowd, levels - 1)
            found.append(("test", source.choice("fg"), first, second) if word == "test" else ("choose", first, second))
    return tuple(found)


def drawn_body(source, works, many, crowd=False):
    return drawn_items(source, works, many, crowd) or (USE,)


def drawn_device(source, items=2):
    """Return a small device."""
    while True:
        names = "uvw"[:source.choice((1, 1, 2, 2, 3))]
        works = {name: drawn_body(source, names, items) for name in names}
        guests = {name: (source.choice("de"), drawn_body(source, names, items)) for name in "g"[:source.randint(0, 1)]}
        crowds = {name: (source.choice("de"), drawn_body(source, names, items, True))
                  for name in "bc"[:source.choice((0, 0, 1, 1, 2))]}
        armed = tuple(name for name in names if source.random() < 0.4)
        try:
            device = Device(works, guests, crowds, armed=armed)
        except InvalidDevice:
            continue
        flags = tuple(flag for flag in device.flags() if source.random() < 0.5)
        return Device(works, guests, crowds, armed=armed, flags=flags)


def drawn_step(source, device):
    kinds = [(word, device.works()) for word in ("cancel", "bar", "halt", "halt", "settle")]
    kinds += [(word, device.gates()) for word in ("close", "close", "drain", "drain")]
    kinds += [(word, device.flags()) for word in ("set", "clear")] + [("take", device.locks())]
    word, names = source.choice([kind for kind in kinds if kind[1]])
    name = source.choice(names)
    return ((word, name), ("give", name)) if word == "take" else ((word, name),)


def drawn_row(source, device, most=5):
    """Return a row that fits a device."""
    while True:
        steps = [step for _ in range(source.randint(0, most)) for step in drawn_step(source, device)]
        try:
            return Row(*steps)
        except InvalidStep:
            continue


def careful_row(source, device):
    """Return a row that closes and drains all gates and shuts most of the works: often a right one."""
    steps = [(word, gate) for gate in device.gates() for word in ("close", "drain")]
    for work in device.works():
        steps += source.choice(((("bar", work), ("halt", work)), (("bar", work), ("settle", work)),
                                (("halt", work),), (("settle", work),)))
    if len(steps) > 8 or source.random() < 0.2:
        source.shuffle(steps)
    return Row(*steps[:8])


def patient_row(source, device):
    """Return a row that waits for works and gates, perhaps while it holds a lock: often one that waits for ever."""
    steps = [("settle", work) for work in device.works()] + [("drain", gate) for gate in device.gates()]
    steps += [("close", gate) for gate in device.gates() if source.random() < 0.5]
    source.shuffle(steps)
    if device.locks() and source.random() < 0.5:
        lock = source.choice(device.locks())
        steps = [("take", lock), *steps[:5], ("give", lock)]
    return Row(*steps[:8])


def draws(seed, many, rows=(drawn_row, careful_row)):
    """Yield many pairs of a device and a row, the rows of some kinds in turn."""
    source = random.Random(seed)
    for number in range(many):
        device = drawn_device(source)
        yield device, rows[number % len(rows)](source, device)

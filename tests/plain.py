"""The definitions of point 5 once more, one sentence after another, to hold the program against."""

import itertools

from spoilorder.glasses import Glass
from spoilorder.worlds import World

OUTCOMES = ("fail", "pass", "skip")


def home(shop, item):
    return [group for group, checks in shop.groups if item[0] in checks][0]


def told_events(events, filling):
    left = list(filling)
    return [event[:3] + (left.pop(0),) if event[0] == "run" and event[3] is None else event for event in events]


def opened_ahead(shop, told, place, worker):
    """The group that is open on the worker ahead of the event at this place."""
    for event in reversed(told[:place]):
        if event[0] != "clear" and event[1] == worker:
            return home(shop, event[2]) if event[0] == "run" and event[3] != "skip" else ""
    return ""


def plain_fillings(shop, events):
    many = len([event for event in events if event[0] == "run" and event[3] is None])
    found = []
    for filling in itertools.product(OUTCOMES, repeat=many):
        told = told_events(events, filling)
        skips = [place for place, event in enumerate(told) if event[0] == "run" and event[3] == "skip"]
        if all(opened_ahead(shop, told, k, told[k][1]) != home(shop, told[k][2]) for k in skips):
            found.append(filling)
    return found


def plain_letters(shop, events, filling):
    told = told_events(events, filling)
    found = []
    for place, event in enumerate(told):
        if event[0] == "gap":
            found.append((place, event[1], ("gap", place)))
        if event[0] != "run":
            continue
        worker, item, outcome = event[1:]
        opened, group = opened_ahead(shop, told, place, worker), home(shop, item)
        if opened != group and opened:
            found.append((place, worker, ("close", opened)))
        if opened != group and outcome == "skip":
            found.append((place, worker, ("fail", (group, 0))))
        if opened != group and outcome != "skip":
            found.append((place, worker, ("pass", (group, 0))))
        if outcome in ("pass", "fail"):
            found.append((place, worker, (outcome, item)))
        if outcome == "cut":
            found.append((place, worker, ("cut", place)))
    return found


def plain_samples(shop, events, filling, thing):
    rows = plain_letters(shop, events, filling)
    found = []
    for place, (event, worker, letter) in enumerate(rows):
        if letter not in (("pass", thing), ("fail", thing)):
            continue
        fresh = max([k for k in range(event) if events[k] == ("fresh", worker)], default=-1)
        clear = max([k for k in range(event) if events[k] == ("clear",)], default=-1)
        near = tuple(row[2] for row in rows[:place] if row[1] == worker and row[0] > fresh)
        far = tuple(row[2] for row in rows[:place] if row[0] > clear)
        found.append((event, letter[0], near, far))
    return found


def random_events(chance, shop, many, untold=3):
    """Events within the bounds of a log; whether they are one hangs on their skips."""
    checks = shop.checks
    items = [(chance.choice(checks), chance.choice((1, 1, 2, 9))) for _ in range(4)]
    events = []
    for _ in range(many):
        word = chance.choice(("run",) * 7 + ("fresh", "clear", "gap"))
        worker = chance.choice(("p", "p", "q", "pq"))
        outcome = chance.choice(("pass", "pass", "fail", "cut", "skip", None))
        if outcome is None and untold == 0:
            outcome = "pass"
        if word == "run":
            untold -= outcome is None
            events.append(("run", worker, chance.choice(items), outcome))
        else:
            events.append(("clear",) if word == "clear" else (word, worker))
    return tuple(events)


def random_world(chance, shop):
    """A world of the shop, with the openings of all groups."""
    every = [(check, edition) for check in shop.checks for edition in (1, 1, 2, 9)]
    items = chance.sample(every, chance.randrange(0, 6))
    things = sorted(set(items + [(group, 0) for group, _ in shop.groups]))
    letters = [(word, thing) for word in ("pass", "fail") for thing in things]
    letters += [("close", group) for group, _ in shop.groups] + [("cut", 1), ("gap", 0), ("gap", 2)]
    tempers = []
    for thing in things:
        some = sorted(chance.sample(letters, chance.randrange(0, 6)))
        kinds = tuple((letter, chance.choice(("mends", "spoils"))) for letter in some)
        first = chance.choice(("pass", "pass", "fail"))
        tempers.append((thing, chance.choice(("near", "far")), first, kinds))
    return World(shop, tuple(tempers))


def random_glass(chance, many=5):
    """A glass with commands of each kind, in one to three groups."""
    cells = []
    for name in "cdef"[:chance.randrange(1, 5)]:
        words = chance.choice((("ok", "bad"), ("ok", "bad"), ("lo", "mid", "hi")))
        cells.append((chance.choice(("cell", "shared")), name, words))
    lines = [" ".join((kind, name) + words) for kind, name, words in cells]
    checks = chance.sample([("g", "a"), ("g", "b"), ("h", "v"), ("h", "w"), ("k", "x")], chance.randrange(1, many + 1))
    for group in "ghk":
        own = sorted(check for home_of, check in checks if home_of == group)
        if own:
            lines.append("group " + group)
            for block in ("open", "close"):
                if chance.random() < 0.5:
                    lines.append("  " + block)
                    lines += random_commands(chance, cells, 2, 1, block == "open")
            for check in own:
                lines.append("  check " + check + " 1")
                lines += random_commands(chance, cells, 2, 0, True)
    return Glass("\n".join(lines))


def random_commands(chance, cells, depth, least, failing):
    lines = []
    blanks = "  " * depth
    for _ in range(chance.randrange(least, 4)):
        _, name, words = chance.choice(cells)
        word = chance.choice(("set", "set", "want", "copy", "if", "fail"))
        if word == "set" or (word == "want" and failing):
            lines.append(f"{blanks}{word} {name} {chance.choice(words)}")
        elif word == "copy":
            lines.append(f"{blanks}copy {name} to {chance.choice([cell[1] for cell in cells if cell[2] == words])}")
        elif word == "if" and depth < 4:
            lines.append(f"{blanks}if {name} = {chance.choice(words)}")
            lines += random_commands(chance, cells, depth + 1, 1, failing)
            if chance.random() < 0.5:
                lines.append(blanks + "else")
                lines += random_commands(chance, cells, depth + 1, 1, failing)
        elif word == "fail" and failing and chance.random() < 0.3:
            lines.append(blanks + "fail")
    if len(lines) < least:
        lines.append(f"{blanks}set {cells[0][1]} {cells[0][2][1]}")
    return lines


def is_plain_item(machine, value):
    """Whether it is an item of the machine, a bool being no integer."""
    return isinstance(value, tuple) and len(value) == 2 and value[1].__class__ == int and value in machine.all_items


def is_plain_order(machine, value):
    return isinstance(value, tuple) and all(is_plain_item(machine, item) for item in value)

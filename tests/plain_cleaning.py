"""Point 17 once more: the text with the lines of offers, all sets of offers, all rows of moves."""

import itertools

from spoilorder.glasses import Glass
from tests.plain import is_plain_item


def blocks_of(text):
    """The text as [lines of cells, [group line, open lines, close lines, lines of checks] for each group]."""
    head, groups = [], []
    part = 0
    for line in text.split("\n"):
        if line.startswith("group "):
            groups.append([[line], [], [], []])
            part = 0
        elif not groups:
            head.append(line)
        else:
            part = {"  open": 1, "  close": 2}.get(line, 3 if line.startswith("  check ") else part)
            groups[-1][part].append(line)
    return head, groups


def plain_text(text, offers):
    """The text of a glass with the lines of the offers."""
    head, groups = blocks_of(text)
    for group, block, cell, word in offers:
        own = [parts for parts in groups if parts[0] == ["group " + group]][0]
        lines = own[1 if block == "open" else 2]
        lines += ([] if lines else ["  " + block]) + [f"    set {cell} {word}"]
    return "\n".join(head + [line for parts in groups for part in parts for line in part])


def all_sets(offers, prices):
    """All sets of offers with their prices: by price, then as tuples."""
    told = dict(zip(offers, prices))
    sets = [some for many in range(len(offers) + 1) for some in itertools.combinations(offers, many)]
    return sorted((sum(told[offer] for offer in some), some) for some in sets)


def all_moves(machine, many):
    runs = [("run", number, item) for number in range(many) for item in machine.all_items]
    return [("clear",)] + [("fresh", number) for number in range(many)] + runs


def moved(machine, state, move):
    if move[0] == "run":
        return machine.after(state, *move[1:])
    return None, machine.freshened(state, move[1]) if move[0] == "fresh" else machine.cleared(state)


def roam(machine, many):
    """All states to which rows of moves lead, and whether a thing fails at any run."""
    states, coming, fails = set(), [machine.start(many)], False
    while coming:
        state = coming.pop()
        if state in states:
            continue
        states.add(state)
        for move in all_moves(machine, many):
            outcome, behind = moved(machine, state, move)
            fails = fails or outcome in ("fail", "skip")
            coming.append(behind)
    return states, fails


def plain_cleaned(glass, offers, prices, many):
    """("clean", price, some, states, sets of the book) or ("none", sets of the book)."""
    book = []
    for price, some in all_sets(offers, prices):
        states, fails = roam(Glass(plain_text(glass.text, some)), many)
        if not fails:
            return "clean", price, some, tuple(sorted(states)), book
        book.append(some)
    return "none", book


def is_failing_row(glass, many, value):
    """Whether it is a row of moves, only the last of which is a run at which a thing fails."""
    if not isinstance(value, tuple):
        return False
    state, failing = glass.start(many), []
    for place, move in enumerate(value):
        if not isinstance(move, tuple) or move[:1] not in (("run",), ("fresh",), ("clear",)):
            return False
        if move[0] != "clear" and (len(move) < 2 or move[1].__class__ != int or not 0 <= move[1] < many):
            return False
        if len(move) != {"run": 3, "fresh": 2, "clear": 1}[move[0]]:
            return False
        if move[0] == "run" and not is_plain_item(glass, move[2]):
            return False
        outcome, state = moved(glass, state, move)
        failing += [place] if outcome in ("fail", "skip") else []
    return failing == [len(value) - 1]


def is_cleaned(glass, offers, prices, many, value, right):
    """Whether it is what cleaned can return; right is what plain_cleaned finds."""
    if not isinstance(value, tuple) or len(value) != len(right) or repr(value[:-1]) != repr(right[:-1]):
        return False
    if not isinstance(value[-1], tuple) or len(value[-1]) != len(right[-1]):
        return False
    for entry, some in zip(value[-1], right[-1]):
        if not isinstance(entry, tuple) or len(entry) != 2 or repr(entry[0]) != repr(some):
            return False
        if not is_failing_row(Glass(plain_text(glass.text, some)), many, entry[1]):
            return False
    return True


def other_row(chance, glass, many):
    """Any row of moves, only the last of which is a run at which a thing fails, among the shorter ones."""
    while True:
        state, row = glass.start(many), ()
        for _ in range(40):
            move = chance.choice(all_moves(glass, many))
            outcome, state = moved(glass, state, move)
            row += (move,)
            if outcome in ("fail", "skip"):
                return row


def other_cleaned(chance, glass, offers, prices, many, right):
    """What any other maker can return."""
    book = tuple((some, other_row(chance, Glass(plain_text(glass.text, some)), many)) for some in right[-1])
    return right[:-1] + (book,)


def random_offers(chance, glass, many):
    every = [
        (group, block, name, word) for group, _ in glass.shop.groups for block in ("open", "close")
        for name, words, _ in glass.cells for word in words]
    return tuple(sorted(chance.sample(every, min(len(every), many))))

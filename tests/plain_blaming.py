"""Point 14 once more: reasons, what is read with them, what clashes touch, and the least price by trying all."""

import itertools

from tests.plain import plain_fillings, plain_letters, plain_samples, told_events
from tests.plain_striking import same_number

TURN = {"pass": "fail", "fail": "pass"}
PLACES = {"lie": 0, "leaves": 1, "feels": 2, "wild": 3}


def price_of(reasons, prices):
    return sum(prices[PLACES[reason[0]]] for reason in reasons)


def items_of(log):
    return sorted({event[2] for event in log if event[0] == "run"})


def told_lies(log):
    return [k for k, event in enumerate(log) if event[0] == "run" and event[3] in TURN]


def editions_above(log):
    items = items_of(log)
    return [item for item in items if (item[0], item[1]) != min(one for one in items if one[0] == item[0])]


def name_of(log, reasons, word, item):
    """The least edition of the item's class: down from the item until something parts."""
    lower = [one for one in items_of(log) if one[0] == item[0] and one <= item]
    while len(lower) > 1 and (word, lower[-1]) not in reasons:
        lower.pop()
    return lower[-1]


def as_letter(log, reasons, letter):
    if letter[0] in TURN and letter[1][1] > 0:
        return letter[0], name_of(log, reasons, "leaves", letter[1])
    return letter


def as_thing(log, reasons, thing):
    return thing if thing[1] == 0 else name_of(log, reasons, "feels", thing)


def turned_events(log, filling, reasons):
    """The log with its filling, with other outcomes where there are lies."""
    return tuple(
        event[:3] + (TURN[event[3]],) if ("lie", k) in reasons else event
        for k, event in enumerate(told_events(log, filling)))


def raw_things(shop, log, filling):
    return sorted({letter[1] for _, _, letter in plain_letters(shop, log, filling) if letter[0] in TURN})


def read_samples(shop, log, filling, reasons):
    """For each thing, by its name, its samples: (event, outcome, near, far) with letters by their names."""
    events = turned_events(log, filling, reasons)
    found = {}
    for thing in raw_things(shop, events, ()):
        for event, outcome, near, far in plain_samples(shop, events, (), thing):
            row = (event, outcome, tuple(as_letter(log, reasons, k) for k in near), tuple(
                as_letter(log, reasons, k) for k in far))
            found.setdefault(as_thing(log, reasons, thing), []).append(row)
    return found


def wild_letters(reasons, thing):
    return [reason[2] for reason in reasons if reason[0] == "wild" and reason[1] == thing]


def all_struck(rows, wild):
    """The letters of samples (outcome, letters) that can be struck, and the outcomes by the last letter that is left."""
    struck = set()
    while True:
        lasts = {}
        for outcome, letters in rows:
            left = [k for k in letters if k not in struck]
            lasts.setdefault(left[-1] if left else (), set()).add(outcome)
        falling = [k for k in lasts if k != () and k not in wild and len(lasts[k]) == 2]
        if not falling:
            return struck, lasts
        struck.add(falling[0])


def strikes_out(rows, wild):
    """Whether samples (outcome, letters) have no temper."""
    lasts = all_struck(rows, wild)[1]
    return () not in wild and len(lasts.get((), ())) == 2


def without_temper(samples, thing, reasons):
    wild = wild_letters(reasons, thing)
    return all(strikes_out([(row[1], row[side]) for row in samples[thing]], wild) for side in (2, 3))


def explains(shop, log, filling, reasons):
    samples = read_samples(shop, log, filling, reasons)
    return not any(without_temper(samples, thing, reasons) for thing in samples)


def is_explained(shop, log, reasons):
    return any(explains(shop, log, filling, reasons) for filling in plain_fillings(shop, log))


def all_reasons(shop, log):
    """All reasons that can do anything, by any of the names that things and letters can have."""
    letters = {()}
    things = set()
    for filling in plain_fillings(shop, log):
        for _, _, letter in plain_letters(shop, log, filling):
            letters.add(letter)
            if letter[0] in TURN:
                letters.add((TURN[letter[0]], letter[1]))
                things.add(letter[1])
    # A class is named by an edition that may have been skipped or cut.
    for item in items_of(log):
        things.add(item)
        letters |= {("pass", item), ("fail", item)}
    found = [("lie", k) for k in told_lies(log)]
    found += [(word, item) for word in ("leaves", "feels") for item in editions_above(log)]
    return sorted(found + [("wild", thing, letter) for thing in things for letter in letters])


def least_price(shop, log, prices, most, every=None):
    """The least price of at most three reasons that explain the log, None if it is above most."""
    every = all_reasons(shop, log) if every is None else every
    tuples = [some for many in range(4) for some in itertools.combinations(every, many)]
    tuples = sorted((price_of(some, prices), len(some), some) for some in tuples)
    for price, _, some in tuples:
        if price <= most and is_explained(shop, log, some):
            return price
    return None


def is_tempered(shop, samples, thing, temper, reasons):
    """Whether it is a temper of the thing, wild only where the reasons tell so, that agrees with its samples."""
    if not isinstance(temper, tuple) or len(temper) != 4 or repr(temper[0]) != repr(thing):
        return False
    _, where, first, kinds = temper
    wild = wild_letters(reasons, thing)
    if where not in ("near", "far") or not isinstance(kinds, tuple):
        return False
    if first not in ("pass", "fail") and not (first == "wild" and () in wild):
        return False
    for part in kinds:
        if not isinstance(part, tuple) or len(part) != 2 or not shop.is_letter(part[0]):
            return False
        if part[1] not in ("mends", "spoils") and not (part[1] == "wild" and part[0] in wild):
            return False
    letters = [part[0] for part in kinds]
    if any(one >= other for one, other in zip(letters, letters[1:])):
        return False
    told = dict(kinds)
    for _, outcome, near, far in samples[thing]:
        left = [k for k in (near if where == "near" else far) if k in told]
        mood = {"mends": "pass", "spoils": "fail", "wild": "wild"}[told[left[-1]]] if left else first
        if mood not in ("wild", outcome):
            return False
    return True


def is_wild_clash(rows, where, wild, value):
    """Whether it is a clash; rows has (outcome, letters) for the number of each event."""
    if not isinstance(value, tuple) or len(value) != 3 or value[0] != where or not isinstance(value[1], tuple):
        return False
    struck = []

    def last(event):
        left = [k for k in rows[event][1] if k not in struck]
        return left[-1] if left else ()

    def both(pair):
        told = [same_number(event, rows) for event in pair]
        return None not in told and [rows[event][0] for event in told] == ["pass", "fail"]

    for striking in value[1]:
        if not isinstance(striking, tuple) or len(striking) != 3 or not both(striking[1:]):
            return False
        letters = [last(event) for event in striking[1:]]
        if letters[0] == () or letters[0] in wild or [repr(k) for k in letters] != [repr(striking[0])] * 2:
            return False
        struck.append(letters[0])
    ends = value[2]
    if not isinstance(ends, tuple) or len(ends) != 2 or not both(ends) or () in wild:
        return False
    return last(ends[0]) == last(ends[1]) == ()


def are_rows(shop, log, reasons, rows):
    """Whether these are the rows of a book for the reasons: for each filling a thing and its two clashes."""
    told = plain_fillings(shop, log)
    if not isinstance(rows, tuple) or len(rows) != len(told):
        return False
    for filling, row in zip(told, rows):
        if not isinstance(row, tuple) or len(row) != 3 or row[0] != filling:
            return False
        samples = read_samples(shop, log, filling, reasons)
        if repr(row[1]) not in [repr(thing) for thing in samples]:
            return False
        if not isinstance(row[2], tuple) or len(row[2]) != 2:
            return False
        wild = wild_letters(reasons, row[1])
        for side, where, clash in ((2, "near", row[2][0]), (3, "far", row[2][1])):
            if not is_wild_clash({one[0]: (one[1], one[side]) for one in samples[row[1]]}, where, wild, clash):
                return False
    return True


def ahead_of(shop, events, number, thing, where):
    """(event, letter) of all letters ahead of the thing's sample at this event."""
    rows = plain_letters(shop, events, ())
    place = [k for k, row in enumerate(rows) if row[0] == number and row[2][0] in TURN and row[2][1] == thing][0]
    worker = events[number][1]
    gone = ("fresh", worker) if where == "near" else ("clear",)
    since = max([k for k in range(number) if events[k] == gone], default=-1)
    return [(row[0], row[2]) for row in rows[:place] if row[0] > since and (where == "far" or row[1] == worker)]


def touches(shop, log, filling, reasons, thing, clash):
    """The reasons that a clash of the thing touches."""
    where, strikings, ends = clash
    events = turned_events(log, filling, reasons)
    numbers = [number for striking in strikings for number in striking[1:]] + list(ends)
    found = {("wild", thing, striking[0]) for striking in strikings}
    if len(ends) == 2:
        found.add(("wild", thing, ()))
    standing, sampled = set(), set()
    for number in numbers:
        own = thing if thing[1] == 0 else events[number][2]
        letters = ahead_of(shop, events, number, own, where) + [(number, ("pass", own))]
        found |= {
            ("lie", event) for event, letter in letters
            if letter[0] in TURN and letter[1][1] > 0 and log[event][3] in TURN}
        standing |= {letter[1] for _, letter in letters[:-1] if letter[0] in TURN and letter[1][1] > 0}
        sampled |= {own} if own[1] > 0 else set()
    for word, there in (("leaves", standing), ("feels", sampled)):
        for item in editions_above(log):
            name = name_of(log, reasons, word, item)
            beside = [one for one in there if name_of(log, reasons, word, one) == name]
            if name != item and beside and item <= max(beside):
                found.add((word, item))
    return found


def beyond(shop, log, prices, bound, reasons, rows):
    """The tuples below the bound that come of the reasons by one reason that these rows touch."""
    if len(reasons) == 3:
        return []
    touched = {
        reason for filling, thing, clashes in rows for clash in clashes
        for reason in touches(shop, log, filling, reasons, thing, clash)}
    found = [tuple(sorted(set(reasons + (reason,)))) for reason in touched]
    return [more for more in found if price_of(more, prices) < bound]


def plain_book(shop, log, prices, bound, rows):
    """The tuples below the bound that come of () by these rows, None if one of them has none."""
    found, coming = set(), [()] if bound > 0 else []
    while coming:
        reasons = coming.pop()
        if reasons in found:
            continue
        found.add(reasons)
        if reasons not in rows:
            return None
        coming += beyond(shop, log, prices, bound, reasons, rows[reasons])
    return sorted(found)


def are_reasons(shop, log, value):
    every = {repr(reason) for reason in all_reasons(shop, log)}
    if not isinstance(value, tuple) or len(value) > 3 or not all(repr(reason) in every for reason in value):
        return False
    return list(value) == sorted(set(value))


def is_book(shop, log, prices, bound, value):
    if not isinstance(value, tuple) or not all(isinstance(entry, tuple) and len(entry) == 2 for entry in value):
        return False
    if not all(are_reasons(shop, log, entry[0]) and are_rows(shop, log, *entry) for entry in value):
        return False
    rows = dict(value)
    return [entry[0] for entry in value] == plain_book(shop, log, prices, bound, rows)


def is_blamed(shop, log, prices, most, value, least):
    """Whether it is what blamed can return, where least is what least_price finds."""
    if not isinstance(value, tuple):
        return False
    if least is None:
        return len(value) == 2 and value[0] == "more" and is_book(shop, log, prices, most + 1, value[1])
    if len(value) != 6 or value[0] != "reasons" or repr(value[1]) != repr(least):
        return False
    reasons, filling, tempers = value[2:5]
    if not are_reasons(shop, log, reasons):
        return False
    if price_of(reasons, prices) != least or filling not in plain_fillings(shop, log):
        return False
    samples = read_samples(shop, log, filling, reasons)
    if not isinstance(tempers, tuple) or len(tempers) != len(samples):
        return False
    if not all(is_tempered(shop, samples, thing, temper, reasons) for thing, temper in zip(sorted(samples), tempers)):
        return False
    return is_book(shop, log, prices, least, value[5])


def explaining(shop, log, prices, price):
    """All tuples of at most three reasons that cost so much and explain the log."""
    every = all_reasons(shop, log)
    tuples = [some for many in range(4) for some in itertools.combinations(every, many)]
    return [some for some in tuples if price_of(some, prices) == price and is_explained(shop, log, some)]


def other_temper(chance, samples, thing, reasons):
    """A temper with whatever is free chosen at random."""
    wild = wild_letters(reasons, thing)
    sides = [side for side in (2, 3) if not strikes_out([(row[1], row[side]) for row in samples[thing]], wild)]
    side = chance.choice(sides)
    rows = [(row[1], row[side]) for row in samples[thing]]
    struck, lasts = all_struck(rows, wild)
    first = "wild" if () in wild else min(lasts.get((), {chance.choice(("pass", "fail"))}))
    kinds = {letter: "wild" for letter in wild if letter != ()}
    for letter in {k for _, letters in rows for k in letters} | {("gap", 17), ("pass", ("b", 9))}:
        if letter in lasts and letter not in kinds:
            kinds[letter] = "mends" if lasts[letter] == {"pass"} else "spoils"
        elif letter not in struck and letter not in kinds:
            kinds[letter] = chance.choice(("mends", "spoils", "idle"))
    told = tuple(sorted((letter, kind) for letter, kind in kinds.items() if kind != "idle"))
    return thing, "near" if side == 2 else "far", first, told


def other_clash(chance, rows, where, wild):
    """A clash with letters struck in any sequence, by any samples; rows has (outcome, letters) for each event."""
    struck, strikings = [], []
    while True:
        lasts = {}
        for event, (outcome, letters) in rows.items():
            left = [k for k in letters if k not in struck]
            lasts.setdefault(left[-1] if left else (), {"pass": [], "fail": []})[outcome].append(event)
        bare = lasts.get((), {"pass": [], "fail": []})
        falling = [k for k in lasts if k != () and k not in wild and lasts[k]["pass"] and lasts[k]["fail"]]
        if bare["pass"] and bare["fail"] and (not falling or chance.random() < 0.5):
            return where, tuple(strikings), (chance.choice(bare["pass"]), chance.choice(bare["fail"]))
        letter = chance.choice(sorted(falling))
        strikings.append((letter, chance.choice(lasts[letter]["pass"]), chance.choice(lasts[letter]["fail"])))
        struck.append(letter)


def other_rows(chance, shop, log, reasons):
    """Rows of a book with any thing without a temper and any clashes."""
    rows = []
    for filling in plain_fillings(shop, log):
        samples = read_samples(shop, log, filling, reasons)
        thing = chance.choice(sorted(thing for thing in samples if without_temper(samples, thing, reasons)))
        wild = wild_letters(reasons, thing)
        clashes = [
            other_clash(chance, {row[0]: (row[1], row[side]) for row in samples[thing]}, where, wild)
            for side, where in ((2, "near"), (3, "far"))]
        rows.append((filling, thing, tuple(clashes)))
    return tuple(rows)


def other_result(chance, shop, log, prices, most, least):
    """What any other maker can return, least being the least price, None if it is above most."""
    bound = most + 1 if least is None else least
    rows = {}
    while True:
        found = plain_book(shop, log, prices, bound, rows)
        if found is not None:
            break
        # What comes next has no rows yet: the book grows by one tuple after the other.
        coming = [()] + [more for some in rows for more in beyond(shop, log, prices, bound, some, rows[some])]
        some = chance.choice(sorted(some for some in coming if some not in rows))
        rows[some] = other_rows(chance, shop, log, some)
    book = tuple((some, rows[some]) for some in found)
    if least is None:
        return "more", book
    reasons = chance.choice(explaining(shop, log, prices, least))
    filling = chance.choice([row for row in plain_fillings(shop, log) if explains(shop, log, row, reasons)])
    samples = read_samples(shop, log, filling, reasons)
    tempers = tuple(other_temper(chance, samples, thing, reasons) for thing in sorted(samples))
    return "reasons", least, reasons, filling, tempers, book

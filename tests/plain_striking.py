"""Point 9 once more: tempers by trying all of them, clashes by the words of the document."""

import itertools

from spoilorder.worlds import World
from tests.plain import plain_fillings, plain_letters, plain_samples

FREE = (None, None, ())


def things_of(shop, events, filling):
    letters = [row[2] for row in plain_letters(shop, events, filling)]
    return sorted({letter[1] for letter in letters if letter[0] in ("pass", "fail")})


def mood_by(letters, first, kinds):
    for letter in reversed(letters):
        if letter in kinds:
            return "pass" if kinds[letter] == "mends" else "fail"
    return first


def agrees(temper, samples):
    thing, where, first, kinds = temper
    return all(
        mood_by(near if where == "near" else far, first, dict(kinds)) == outcome for _, outcome, near, far in samples)


def is_held(temper, held):
    where, first, kinds = held
    told = dict(temper[3])
    return where in (None, temper[1]) and first in (None, temper[2]) and all(
        told.get(letter, "idle") == kind for letter, kind in kinds)


def all_tempers(thing, samples, held):
    """All tempers as held, over the letters of the samples and those that are held, that agree with the samples."""
    letters = sorted({letter for sample in samples for row in sample[2:] for letter in row} | {k for k, _ in held[2]})
    fixed = dict(held[2])
    choices = [[fixed[letter]] if letter in fixed else ["idle", "mends", "spoils"] for letter in letters]
    for where in ("near", "far") if held[0] is None else (held[0],):
        for first in ("pass", "fail") if held[1] is None else (held[1],):
            for row in itertools.product(*choices):
                kinds = tuple((letter, kind) for letter, kind in zip(letters, row) if kind != "idle")
                if agrees((thing, where, first, kinds), samples):
                    yield (thing, where, first, kinds)


def has_temper(thing, samples, held=FREE):
    return next(all_tempers(thing, samples, held), None) is not None


def is_possible(shop, events, filling):
    return all(
        has_temper(thing, plain_samples(shop, events, filling, thing)) for thing in things_of(shop, events, filling))


def plain_possible(shop, events):
    return [filling for filling in plain_fillings(shop, events) if is_possible(shop, events, filling)]


def log_samples(shop, events, filling, thing, where):
    """The samples by what tells them."""
    place = 2 if where == "near" else 3
    return {sample[0]: (sample[1], sample[place]) for sample in plain_samples(shop, events, filling, thing)}


def same_number(told, samples):
    """What tells a sample, None for a bool and the like."""
    return told if told.__class__ == int and told in samples else None


def is_clash(samples, where, held, value, key=same_number):
    """Whether it is a clash of a thing with these samples."""
    if not isinstance(value, tuple) or len(value) != 3 or value[0] != where or not isinstance(value[1], tuple):
        return False
    fixed = dict(held[2])
    left = {told: [k for k in row[1] if fixed.get(k) != "idle"] for told, row in samples.items()}
    for striking in value[1]:
        if not isinstance(striking, tuple) or len(striking) != 3:
            return False
        letter, passing, failing = striking[0], key(striking[1], samples), key(striking[2], samples)
        if passing is None or failing is None or letter in list(fixed):
            return False
        if samples[passing][0] != "pass" or samples[failing][0] != "fail":
            return False
        for told in (passing, failing):
            if not left[told] or repr(left[told][-1]) != repr(letter):
                return False
        left = {told: [k for k in row if k != letter] for told, row in left.items()}
    ends = value[2]
    if not isinstance(ends, tuple) or len(ends) not in (1, 2):
        return False
    ends = [key(told, samples) for told in ends]
    if None in ends:
        return False
    if len(ends) == 2:
        outcomes = [samples[told][0] for told in ends]
        return held[1] is None and outcomes == ["pass", "fail"] and not left[ends[0]] and not left[ends[1]]
    outcome, row = samples[ends[0]][0], left[ends[0]]
    if not row:
        return held[1] is not None and held[1] != outcome
    return (fixed.get(row[-1]), outcome) in (("mends", "fail"), ("spoils", "pass"))


def are_clashes(shop, events, filling, thing, held, value):
    wheres = ("near", "far") if held[0] is None else (held[0],)
    if not isinstance(value, tuple) or len(value) != len(wheres):
        return False
    return all(
        is_clash(log_samples(shop, events, filling, thing, where), where, held, clash)
        for where, clash in zip(wheres, value))


def is_world(shop, events, filling, value):
    if not isinstance(value, World) or value.shop != shop:
        return False
    tempers = {temper[0]: temper for temper in value.tempers}
    return all(
        thing in tempers and agrees(tempers[thing], plain_samples(shop, events, filling, thing))
        for thing in things_of(shop, events, filling))


def is_plain_thing(shop, value):
    if not isinstance(value, tuple) or len(value) != 2 or value[1].__class__ != int:
        return False
    return (value[0] in shop.checks and 1 <= value[1] <= 9) or (
        value[1] == 0 and value[0] in [group for group, _ in shop.groups])


def is_filled(shop, events, value):
    told = plain_fillings(shop, events)
    if not isinstance(value, tuple) or len(value) != len(told):
        return False
    for filling, row in zip(told, value):
        if not isinstance(row, tuple) or len(row) != 2 or row[0] != filling or not isinstance(row[1], tuple):
            return False
        answer = row[1]
        if answer[:1] == ("world",) and len(answer) == 2:
            if not is_world(shop, events, filling, answer[1]):
                return False
        elif answer[:1] == ("clash",) and len(answer) == 3:
            if not is_plain_thing(shop, answer[1]):
                return False
            if not are_clashes(shop, events, filling, answer[1], FREE, answer[2]):
                return False
        else:
            return False
    return True


def is_plain_temper(shop, value):
    if not isinstance(value, tuple) or len(value) != 4 or not is_plain_thing(shop, value[0]):
        return False
    if value[1] not in ("near", "far") or value[2] not in ("pass", "fail") or not isinstance(value[3], tuple):
        return False
    for part in value[3]:
        if not isinstance(part, tuple) or len(part) != 2 or not shop.is_letter(part[0]):
            return False
        if part[1] not in ("mends", "spoils"):
            return False
    letters = [part[0] for part in value[3]]
    return letters == sorted(set(letters))


def is_under(shop, events, thing, held, value):
    """Whether it is what under can return for a log."""
    if not isinstance(value, tuple) or not value:
        return False
    if value[0] == "temper" and len(value) == 3:
        if value[1] not in plain_possible(shop, events) or not is_plain_temper(shop, value[2]):
            return False
        temper = value[2]
        return temper[0] == thing and is_held(temper, held) and agrees(
            temper, plain_samples(shop, events, value[1], thing))
    told = plain_fillings(shop, events)
    if value[0] != "clash" or len(value) != 2 or not isinstance(value[1], tuple) or len(value[1]) != len(told):
        return False
    for filling, row in zip(told, value[1]):
        if not isinstance(row, tuple) or len(row) != 3 or row[0] != filling or not is_plain_thing(shop, row[1]):
            return False
        if not are_clashes(shop, events, filling, row[1], held if row[1] == thing else FREE, row[2]):
            return False
    return True

"""Striking letters out of samples, until there is a temper, or ends show that there is none.

What is held can be "wild", too, kinds and first: it is never struck, and what it decides is in no striking and no end.

Samples come from a source, an object with two methods. lasts(thing, where, struck) has for each last letter that is
not struck, () for none, a dict with how a sample of each outcome is told. sample(thing, where, told) is
(outcome, letters) of the sample that is told so, () if there is none.
"""

from spoilorder.forms import is_row, is_same
from spoilorder.worlds import WILD, are_kinds

WHERES = ("near", "far")
FREE = (None, None, ())
HELD_KINDS = ("idle", "mends", "spoils")
CONTRARY = {"mends": "fail", "spoils": "pass"}


def is_held(shop, value):
    """Whether the value is (where, first, kinds), what can be asked of a temper."""
    if not is_row(value, 3, 3) or value[0] not in ("near", "far", None) or value[1] not in ("pass", "fail", None):
        return False
    return are_kinds(shop, value[2], HELD_KINDS)


def is_as_held(temper, held):
    """Whether the temper is as it is held."""
    if held[0] not in (None, temper[1]) or held[1] not in (None, temper[2]):
        return False
    kinds = dict(temper[3])
    return all([kinds.get(letter, "idle") == kind for letter, kind in held[2]])


def wheres_of(held):
    """Where the mark can lie, near ahead of far."""
    return WHERES if held[0] is None else (held[0],)


def answer_of(source, thing, held):
    """(temper, ()) with a temper of the thing as held, or ((), clashes), one for each where that held lets."""
    clashes = []
    for where in wheres_of(held):
        temper, clash = _struck_out(source, thing, where, held)
        if temper:
            return temper, ()
        clashes.append(clash)
    return (), tuple(clashes)


def are_clashes(source, thing, held, value):
    """Whether the value has just one clash of the thing as held for each where that held lets."""
    wheres = wheres_of(held)
    if not is_row(value, len(wheres), len(wheres)):
        return False
    return all([_is_clash(source, thing, where, held, clash) for where, clash in zip(wheres, value)])


def last_of(letters, struck):
    """The last of the letters that is not struck, () for none."""
    for letter in letters[::-1]:
        if letter not in struck:
            return letter
    return ()


def _struck_out(source, thing, where, held):
    """(temper, ()) with a temper whose mark lies there, or ((), clash)."""
    fixed = dict(held[2])
    struck = {letter: True for letter in fixed if fixed[letter] == "idle"}
    strikings = []
    while True:
        lasts = source.lasts(thing, where, struck)
        ends = _ends_of(lasts, held[1], fixed)
        if ends:
            return (), (where, tuple(strikings), ends)
        # With both outcomes what is held here is wild: anything else would have made ends.
        both = [letter for letter in sorted(list(lasts)) if len(lasts[letter]) == 2]
        fallen = [letter for letter in both if letter != () and letter not in fixed]
        if not fallen:
            first, kinds = _left_of(lasts, held[1], fixed)
            return (thing, where, first, kinds), ()
        # One striking leaves the other samples as they are, so all that can fall now fall one behind the other.
        for letter in fallen:
            strikings.append((letter, lasts[letter]["pass"], lasts[letter]["fail"]))
            struck[letter] = True


def _ends_of(lasts, first, fixed):
    """Samples that show that there is no temper, () if there are none yet."""
    bare = lasts.get((), {})
    if first is None and len(bare) == 2:
        return bare["pass"], bare["fail"]
    for outcome in bare:
        if first not in (None, outcome, WILD):
            return (bare[outcome],)
    for letter in sorted(list(lasts)):
        contrary = CONTRARY.get(fixed.get(letter, ""), "")
        if contrary in lasts[letter]:
            return (lasts[letter][contrary],)
    return ()


def _left_of(lasts, first, fixed):
    """First and the kinds of a temper, where each last letter has samples of one outcome only."""
    kinds = {letter: fixed[letter] for letter in fixed if fixed[letter] != "idle"}
    told = first
    for letter in lasts:
        outcome = "pass" if "pass" in lasts[letter] else "fail"
        if letter == ():
            told = outcome if told is None else told
        elif letter not in fixed:
            kinds[letter] = "mends" if outcome == "pass" else "spoils"
    return "pass" if told is None else told, tuple(sorted([(letter, kinds[letter]) for letter in kinds]))


def _is_clash(source, thing, where, held, value):
    """Whether the value is a clash of the thing as held."""
    if not is_row(value, 3, 3) or not is_same(value[0], where) or not isinstance(value[1], tuple):
        return False
    fixed = dict(held[2])
    struck = {letter: True for letter in fixed if fixed[letter] == "idle"}
    for striking in value[1]:
        if not is_row(striking, 3, 3):
            return False
        letter = _struck_by(source, thing, where, struck, striking)
        if letter == () or letter in fixed:
            return False
        struck[letter] = True
    seen = _seen_of(source, thing, where, struck, value[2])
    if [sample[0] for sample in seen] == ["pass", "fail"]:
        return held[1] is None and seen[0][1] == () and seen[1][1] == ()
    if len(seen) != 1:
        return False
    outcome, last = seen[0]
    if last == ():
        return held[1] not in (None, outcome, WILD)
    return CONTRARY.get(fixed.get(last, ""), "") == outcome


def _struck_by(source, thing, where, struck, striking):
    """The letter that the striking strikes, () if it strikes none."""
    seen = _seen_of(source, thing, where, struck, striking[1:])
    if [sample[0] for sample in seen] != ["pass", "fail"] or seen[0][1] != seen[1][1]:
        return ()
    return seen[0][1] if is_same(striking[0], seen[0][1]) else ()


def _seen_of(source, thing, where, struck, value):
    """The outcome and the last letter that is not struck of each sample that the value tells, [] if it tells none."""
    if not isinstance(value, tuple):
        return []
    seen = []
    for told in value:
        sample = source.sample(thing, where, told)
        if sample == ():
            return []
        seen.append((sample[0], last_of(sample[1], struck)))
    return seen

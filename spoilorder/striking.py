"""What a log tells for sure: which fillings are possible, which tempers a thing can have."""

from spoilorder.errors import BadHeld, NoLetter, NoThing
from spoilorder.logs import check_log, untold_of
from spoilorder.readings import possible_readings, readings_of
from spoilorder.strikes import HELD_KINDS, answer_of, is_held
from spoilorder.worlds import World


def filled(shop, log):
    """(filling, answer) for each filling: ("world", world), or ("clash", thing, clashes) if it has none."""
    check_log(shop, log)
    return tuple([(row.filling, _answer_by(shop, row)) for row in readings_of(shop, log)])


def possible(shop, log):
    """The fillings with a world, ascending."""
    check_log(shop, log)
    return tuple([row.filling for row in readings_of(shop, log) if row.whole])


def forecast(shop, log):
    """For each None of the log the outcomes that it has in the possible fillings."""
    found = possible(shop, log)
    return tuple([tuple(sorted({filling[place] for filling in found})) for place in range(untold_of(log))])


def under(shop, log, thing, held):
    """("temper", filling, temper) with a temper of the thing as held, or ("clash", rows), one for each filling."""
    rows = possible_readings(shop, log)
    if not shop.is_thing(thing):
        raise NoThing(thing)
    if not is_held(shop, held):
        raise BadHeld(held)
    return under_by(rows, thing, held)


def kinds(shop, log, thing, letter):
    """The kinds that the letter can have in tempers of the thing, ascending."""
    rows = possible_readings(shop, log)
    if not shop.is_thing(thing):
        raise NoThing(thing)
    if not shop.is_letter(letter):
        raise NoLetter(letter)
    return tuple([kind for kind in HELD_KINDS if can_be(rows, thing, (None, None, ((letter, kind),)))])


def wheres(shop, log, thing):
    """Where the mark of the thing can lie, ascending."""
    rows = possible_readings(shop, log)
    if not shop.is_thing(thing):
        raise NoThing(thing)
    return tuple([where for where in ("far", "near") if can_be(rows, thing, (where, None, ()))])


def under_by(rows, thing, held):
    """What under returns, by the readings of the log."""
    told = []
    for row in rows:
        temper, clashes = answer_of(row.source, thing, held)
        if temper and row.whole:
            return "temper", row.filling, temper
        # A thing that clashes by itself clashes as held, too, so with a temper here it is another one that clashes.
        if temper:
            told.append((row.filling, row.clashing, row.clashes))
        else:
            told.append((row.filling, thing, clashes))
    return "clash", tuple(told)


def can_be(rows, thing, held):
    """Whether the thing has a temper as held by a possible filling."""
    return under_by(rows, thing, held)[0] == "temper"


def _answer_by(shop, row):
    if row.whole:
        return "world", World(shop, row.found_tempers)
    return "clash", row.clashing, row.clashes

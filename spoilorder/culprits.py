"""Culprits: which letters ahead of a sample can have decided how it came out."""

from spoilorder.errors import NoSample, NotTold
from spoilorder.forms import is_integer
from spoilorder.logs import origins_of, samples_of
from spoilorder.readings import possible_readings
from spoilorder.strikes import WHERES
from spoilorder.striking import under_by

DECIDING = {"pass": "mends", "fail": "spoils"}


def culprits(shop, log, event, thing):
    """(where, number, answer) for first and each letter ahead of the sample, near ahead of far."""
    rows, sample = _asked_of(shop, log, event, thing)
    found = []
    for where, ahead in zip(WHERES, sample[2:]):
        for number in range(-1, len(ahead)):
            found.append((where, number, _answer_by(rows, thing, sample[1], where, ahead, number)))
    return tuple(found)


def suspects(shop, log, event, thing):
    """(event, letter) for each letter that can have decided, (-1, ()) for first, ascending."""
    sample = _asked_of(shop, log, event, thing)[1]
    origins = origins_of(shop, log, sample)
    found = {}
    for where, number, answer in culprits(shop, log, event, thing):
        if answer[0] == "temper" and number == -1:
            found[(-1, ())] = True
        elif answer[0] == "temper":
            found[origins[where][number]] = True
    return tuple(sorted(list(found)))


def _asked_of(shop, log, event, thing):
    """The readings of the log and the sample of the thing at the event; raises what is told in section 11."""
    rows = possible_readings(shop, log)
    for number, told in enumerate(log):
        if told[0] == "run" and told[3] is None:
            raise NotTold(number)
    if is_integer(event, 0, len(log) - 1) and shop.is_thing(thing):
        for sample in samples_of(shop, log, ()).get(thing, ()):
            if sample[0] == event:
                return rows, sample
    raise NoSample((event, thing))


def _answer_by(rows, thing, outcome, where, ahead, number):
    """Whether the letter ahead of the sample that has this number can have decided; -1 is first."""
    later = ahead[number + 1:]
    idle = [(letter, "idle") for letter in sorted(set(later))]
    if number == -1:
        return under_by(rows, thing, (where, outcome, tuple(idle)))
    if ahead[number] in later:
        return "later", max([place for place, letter in enumerate(ahead) if letter == ahead[number]])
    kinds = sorted(idle + [(ahead[number], DECIDING[outcome])])
    return under_by(rows, thing, (where, None, tuple(kinds)))

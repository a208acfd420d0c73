"""Whether values of any kind are what the functions of striking.py can return."""

from spoilorder.errors import BadHeld, NoThing
from spoilorder.forms import is_row, is_same
from spoilorder.logs import check_log
from spoilorder.readings import is_world_of, possible_readings, readings_of
from spoilorder.strikes import FREE, are_clashes, is_as_held, is_held
from spoilorder.worlds import is_temper


def shows_filled(shop, log, value):
    """Whether the value has just one row for each filling, with a world that agrees or clashes of a thing."""
    check_log(shop, log)
    rows = readings_of(shop, log)
    if not is_row(value, len(rows), len(rows)):
        return False
    return all([_is_filled(shop, row, told) for row, told in zip(rows, value)])


def shows_under(shop, log, thing, held, value):
    """Whether the value is what under can return, whoever made it."""
    rows = possible_readings(shop, log)
    if not shop.is_thing(thing):
        raise NoThing(thing)
    if not is_held(shop, held):
        raise BadHeld(held)
    return shows_under_by(shop, rows, thing, held, value)


def shows_under_by(shop, rows, thing, held, value):
    """Whether the value is what under can return, by the readings of the log."""
    if not is_row(value, 2, 3):
        return False
    if len(value) == 3:
        return value[0] == "temper" and any([_is_temper_row(shop, row, thing, held, value) for row in rows])
    if value[0] != "clash" or not is_row(value[1], len(rows), len(rows)):
        return False
    return all([_is_clash_row(shop, row, thing, held, told) for row, told in zip(rows, value[1])])


def _is_filled(shop, row, value):
    """Whether the value is (filling, answer) for this filling."""
    if not is_row(value, 2, 2) or value[0] != row.filling or not is_row(value[1], 2, 3):
        return False
    answer = value[1]
    if len(answer) == 2:
        return answer[0] == "world" and is_world_of(shop, row.source, answer[1])
    return answer[0] == "clash" and shop.is_thing(answer[1]) and are_clashes(row.source, answer[1], FREE, answer[2])


def _is_temper_row(shop, row, thing, held, value):
    """Whether the value is ("temper", filling, temper) for this filling, with a temper of the thing as held."""
    if not row.whole or value[1] != row.filling or not is_temper(shop, value[2]):
        return False
    return value[2][0] == thing and is_as_held(value[2], held) and row.source.suits(value[2])


def _is_clash_row(shop, row, thing, held, value):
    """Whether the value is (filling, thing, clashes) for this filling, as held if it is the thing that is asked of."""
    if not is_row(value, 3, 3) or value[0] != row.filling or not shop.is_thing(value[1]):
        return False
    asked = held if is_same(value[1], thing) else FREE
    return are_clashes(row.source, value[1], asked, value[2])

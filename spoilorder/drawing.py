"""Drawing machines together: worlds and tempers that agree with all rows of moves, and the glass of a world."""

from spoilorder.errors import BadHeld, BadMany, NoThing, OtherItems
from spoilorder.forms import is_integer, is_row
from spoilorder.roaming import Roaming
from spoilorder.states import is_thing_of
from spoilorder.strikes import FREE, answer_of, are_clashes, is_as_held, is_held
from spoilorder.worlds import World, is_temper, turns_of

MOST_WORKERS = 2
# A mood is written as a word of a cell: "fail" may be none there.
WORDS = {"pass": "ok", "fail": "bad"}
CELL_LETTERS = "abcdefgh"


def drawn(machine, many):
    """("world", world) with a world that does the same in all moves, or ("none", thing, clashes)."""
    _check_many(many)
    source = Roaming(machine, many)
    tempers = []
    for thing in machine.things:
        temper, clashes = answer_of(source, thing, FREE)
        if not temper:
            return "none", thing, clashes
        tempers.append(temper)
    return "world", World(machine.shop, tuple(tempers))


def shows_drawn(machine, many, value):
    """Whether the value is what drawn can return, whoever made it."""
    _check_many(many)
    source = Roaming(machine, many)
    if not is_row(value, 2, 3):
        return False
    if len(value) == 2:
        return value[0] == "world" and _is_world(source, machine, value[1])
    return value[0] == "none" and is_thing_of(machine, value[1]) and are_clashes(source, value[1], FREE, value[2])


def drawn_under(machine, many, thing, held):
    """("temper", temper) with a temper of the thing as held that agrees with all samples, or ("clash", clashes)."""
    _check_under(machine, many, thing, held)
    temper, clashes = answer_of(Roaming(machine, many), thing, held)
    return ("temper", temper) if temper else ("clash", clashes)


def shows_drawn_under(machine, many, thing, held, value):
    """Whether the value is what drawn_under can return, whoever made it."""
    _check_under(machine, many, thing, held)
    source = Roaming(machine, many)
    if not is_row(value, 2, 2):
        return False
    if value[0] == "temper":
        right = is_temper(machine.shop, value[1]) and value[1][0] == thing and is_as_held(value[1], held)
        return right and source.suits(value[1])
    return value[0] == "clash" and are_clashes(source, thing, held, value[1])


def glass_of(world):
    """The text of a glass that does the same as the world in all moves."""
    told = [item[0] for item in world.all_items]
    if not all([check in told for check in world.shop.checks]):
        raise OtherItems(world.all_items)
    # With eight things at most, each can have a cell, which has its mood.
    cells = {temper[0]: "c" + sign for temper, sign in zip(world.tempers, CELL_LETTERS)}
    lines = [_cell_line(temper, cells) for temper in world.tempers]
    for group, checks in world.shop.groups:
        lines.append(f"group {group}")
        lines.append("  open")
        lines.extend(_try_lines(world, cells, (group, 0)))
        closing = _set_lines(world, cells, ("close", group), 4)
        if closing:
            lines.append("  close")
            lines.extend(closing)
        for check, edition in world.all_items:
            if check in checks:
                lines.append(f"  check {check} {edition}")
                lines.extend(_try_lines(world, cells, (check, edition)))
    return "\n".join(lines)


def _check_many(many):
    if not is_integer(many, 1, MOST_WORKERS):
        raise BadMany(many)


def _check_under(machine, many, thing, held):
    _check_many(many)
    if not is_thing_of(machine, thing):
        raise NoThing(thing)
    if not is_held(machine.shop, held):
        raise BadHeld(held)


def _is_world(source, machine, value):
    """Whether the value is a world with the things of the machine that agrees with all samples."""
    if not isinstance(value, World) or value.shop != machine.shop or value.things != machine.things:
        return False
    return all([source.suits(temper) for temper in value.tempers])


def _cell_line(temper, cells):
    """The line of the cell of a thing, whose first word is the mood at first."""
    words = ["ok", "bad"] if temper[2] == "pass" else ["bad", "ok"]
    kind = "cell" if temper[1] == "near" else "shared"
    return " ".join([kind, cells[temper[0]]] + words)


def _try_lines(world, cells, thing):
    """The commands of a thing: by its mood it passes or fails, and its letter comes."""
    failing = _set_lines(world, cells, ("fail", thing), 6) + ["      fail"]
    passing = _set_lines(world, cells, ("pass", thing), 6)
    others = ["    else"] + passing if passing else []
    return [f"    if {cells[thing]} = bad"] + failing + others


def _set_lines(world, cells, letter, blanks):
    """The commands that do what a letter does to the moods."""
    lines = []
    for temper in world.tempers:
        mood = turns_of(temper).get(letter, "")
        if mood:
            lines.append(" " * blanks + f"set {cells[temper[0]]} {WORDS[mood]}")
    return lines

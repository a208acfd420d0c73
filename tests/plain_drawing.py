"""Point 10 once more: rows of moves as logs, and what a temper does in all of them."""

from spoilorder.worlds import World
from tests.plain import is_plain_item, plain_samples
from tests.plain_striking import FREE, is_clash, is_held, is_plain_temper

WORKERS = ("p", "q")


def is_plain_move(machine, many, value):
    if not isinstance(value, tuple) or not value:
        return False
    if value == ("clear",):
        return True
    if len(value) < 2 or value[1].__class__ != int or value[1] not in range(many):
        return False
    return value[:1] + value[2:] == ("fresh",) or (
        len(value) == 3 and value[0] == "run" and is_plain_item(machine, value[2]))


def do(machine, state, move):
    if move[0] == "run":
        return machine.after(state, move[1], move[2])
    return "", machine.cleared(state) if move[0] == "clear" else machine.freshened(state, move[1])


def all_moves(machine, many):
    numbers = range(many)
    runs = [("run", number, item) for number in numbers for item in machine.all_items]
    return [("clear",)] + [("fresh", number) for number in numbers] + runs


def as_log(machine, many, moves):
    """The log of the moves, which may be longer than a log's bounds."""
    state, log = machine.start(many), []
    for move in moves:
        outcome, state = do(machine, state, move)
        if move[0] == "run":
            log.append(("run", WORKERS[move[1]], move[2], outcome))
        else:
            log.append(("clear",) if move[0] == "clear" else ("fresh", WORKERS[move[1]]))
    return tuple(log)


def sample_of(machine, many, thing, moves):
    """(outcome, near, far) if the moves are a sample of the thing, None otherwise."""
    if not isinstance(moves, tuple) or not moves or not all(is_plain_move(machine, many, move) for move in moves):
        return None
    log = as_log(machine, many, moves)
    found = [row for row in plain_samples(machine.shop, log, (), thing) if row[0] == len(log) - 1]
    return found[0][1:] if found else None


def rows_told(value):
    """All rows that a clash tells samples by."""
    if not isinstance(value, tuple) or len(value) != 3:
        return []
    strikings = value[1] if isinstance(value[1], tuple) else ()
    told = [row for striking in strikings if isinstance(striking, tuple) for row in striking[1:]]
    return told + (list(value[2]) if isinstance(value[2], tuple) else [])


def is_row_clash(machine, many, thing, where, held, value):
    samples = {}
    for row in rows_told(value):
        sample = sample_of(machine, many, thing, row)
        if sample:
            samples[row] = (sample[0], sample[1] if where == "near" else sample[2])

    def key(told, among):
        return told if sample_of(machine, many, thing, told) else None

    return is_clash(samples, where, held, value, key)


def are_row_clashes(machine, many, thing, held, value):
    wheres = ("near", "far") if held[0] is None else (held[0],)
    if not isinstance(value, tuple) or len(value) != len(wheres):
        return False
    return all(is_row_clash(machine, many, thing, where, held, clash) for where, clash in zip(wheres, value))


def letters_of_run(machine, state, move, outcome):
    """The letters of a run in their sequence, by section 5."""
    opened = state[0][move[1]][0]
    group = [name for name, checks in machine.shop.groups if move[2][0] in checks][0]
    found = [("close", opened)] if opened not in ("", group) else []
    if outcome == "skip":
        return found + [("fail", (group, 0))]
    if opened != group:
        found.append(("pass", (group, 0)))
    return found + [(outcome, move[2])]


def suits(machine, many, temper):
    """Whether the temper agrees with all rows of moves: its moods go along with the states of the machine."""
    thing, where, first, kinds = temper
    told = dict(kinds)
    begin = (machine.start(many), (first,) * many)
    seen, fresh = {begin}, [begin]
    while fresh:
        behind = []
        for state, moods in fresh:
            for move in all_moves(machine, many):
                outcome, after = do(machine, state, move)
                mine = list(moods)
                if move[0] == "clear" and where == "far":
                    mine = [first] * many
                if move[0] == "fresh" and where == "near":
                    mine[move[1]] = first
                for letter in letters_of_run(machine, state, move, outcome) if move[0] == "run" else []:
                    if letter in (("pass", thing), ("fail", thing)) and mine[move[1]] != letter[0]:
                        return False
                    if letter in told:
                        mood = "pass" if told[letter] == "mends" else "fail"
                        mine = [mood if where == "far" or k == move[1] else mine[k] for k in range(many)]
                pair = (after, tuple(mine))
                if pair not in seen:
                    seen.add(pair)
                    behind.append(pair)
        fresh = behind
    return True


def is_drawn(machine, many, value):
    if not isinstance(value, tuple) or not value:
        return False
    if value[0] == "world" and len(value) == 2 and isinstance(value[1], World):
        world = value[1]
        return world.shop == machine.shop and world.things == machine.things and all(
            suits(machine, many, temper) for temper in world.tempers)
    if value[0] != "none" or len(value) != 3 or not is_thing(machine, value[1]):
        return False
    return are_row_clashes(machine, many, value[1], FREE, value[2])


def is_drawn_under(machine, many, thing, held, value):
    if not isinstance(value, tuple) or len(value) != 2:
        return False
    if value[0] == "temper":
        return is_plain_temper(machine.shop, value[1]) and value[1][0] == thing and is_held(value[1], held) and suits(
            machine, many, value[1])
    return value[0] == "clash" and are_row_clashes(machine, many, thing, held, value[1])


def is_thing(machine, value):
    return isinstance(value, tuple) and len(value) == 2 and value[1].__class__ == int and value in machine.things

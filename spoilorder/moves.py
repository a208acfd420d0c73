"""Moves of some workers: ("fresh", number), ("clear",) and ("run", number, item)."""

from spoilorder.forms import is_integer, is_row
from spoilorder.logs import run_letters
from spoilorder.states import is_item_of, opened_in


def moves_of(machine, many):
    """All moves of so many workers, ascending."""
    fresh = [("fresh", number) for number in range(many)]
    runs = [("run", number, item) for number in range(many) for item in machine.all_items]
    return [("clear",)] + fresh + runs


def is_move(machine, many, value):
    """Whether the value is a move of so many workers."""
    if not is_row(value, 1, 3):
        return False
    if value[0] == "clear":
        return len(value) == 1
    if len(value) == 1 or not is_integer(value[1], 0, many - 1):
        return False
    if value[0] == "fresh":
        return len(value) == 2
    return value[0] == "run" and len(value) == 3 and is_item_of(machine, value[2])


def are_moves(machine, many, value):
    """Whether the value is a row of moves of so many workers."""
    return isinstance(value, tuple) and all([is_move(machine, many, move) for move in value])


def moved(machine, state, move):
    """What comes of a move, "" for one that is no run, and the state behind it."""
    if move[0] == "run":
        return machine.after(state, move[1], move[2])
    if move[0] == "fresh":
        return "", machine.freshened(state, move[1])
    return "", machine.cleared(state)


def letters_of_move(machine, state, move, outcome):
    """The letters that a move brings which came out so; a state is the one ahead of it."""
    if move[0] != "run":
        return []
    return run_letters(machine.shop, 0, move + (outcome,), opened_in(state, move[1]))


def events_of(machine, many, moves):
    """The moves as events of a log, with numbers in the places of the names of workers."""
    state = machine.start(many)
    events = []
    for move in moves:
        outcome, state = moved(machine, state, move)
        events.append(move + (outcome,) if move[0] == "run" else move)
    return tuple(events)

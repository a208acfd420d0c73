"""Asking: the fewest trials behind a log that settle a question, whatever comes of them."""

from spoilorder.errors import BadMost, BadQuestion, BadTrials
from spoilorder.forms import is_integer, is_row
from spoilorder.inquiries import Inquiry, things_asked
from spoilorder.logs import is_event, items_of, untold_of, workers_of
from spoilorder.outlooks import check_room
from spoilorder.readings import possible_readings

MOST_TRIALS = 4
MOST_EVENTS = 5
MOST_RUNS = 2
MOST_ASKED = 2
SETTLED = ("settled",)


def asked(shop, log, trials, question, most):
    """("settles", number, tree, less) with the fewest trials that settle the question, or ("open", less)."""
    _check_asked(shop, log, trials, question, most)
    inquiry = Inquiry(shop, log, question)
    number = _fewest(inquiry, trials, most)
    if number < 0:
        return "open", _contrary_of(inquiry, trials, (), most)
    less = None if number == 0 else _contrary_of(inquiry, trials, (), number - 1)
    return "settles", number, _tree_of(inquiry, trials, (), number), less


def shows_asked(shop, log, trials, question, most, value):
    """Whether the value is what asked can return, whoever made it."""
    _check_asked(shop, log, trials, question, most)
    inquiry = Inquiry(shop, log, question)
    number = _fewest(inquiry, trials, most)
    if number < 0:
        return is_row(value, 2, 2) and value[0] == "open" and _is_contrary(inquiry, trials, (), most, value[1])
    if not is_row(value, 4, 4) or value[0] != "settles" or not is_integer(value[1], number, number):
        return False
    if not _is_tree(inquiry, trials, (), number, value[2]):
        return False
    if number == 0:
        return value[3] is None
    return _is_contrary(inquiry, trials, (), number - 1, value[3])


def _check_asked(shop, log, trials, question, most):
    possible_readings(shop, log)
    if not is_row(trials, 1, MOST_TRIALS) or not all([_is_trial(shop, trial) for trial in trials]):
        raise BadTrials(trials)
    if not _is_question(shop, question):
        raise BadQuestion(question)
    if not is_integer(most, 0, MOST_ASKED):
        raise BadMost(most)
    events = [event for trial in trials for event in trial]
    if question[0] == "events":
        events.extend(question[1])
    things = things_asked(shop, question)
    items = items_of(events) + tuple([thing for thing in things if thing[1] > 0])
    check_room(log, workers_of(events), items)


def _is_trial(shop, value):
    """Whether the value is a tuple of events, one or two of them runs that are not told, the others fresh and clear."""
    if not is_row(value, 1, MOST_EVENTS) or not all([is_event(shop, event) for event in value]):
        return False
    runs = [event for event in value if event[0] == "run"]
    return 1 <= untold_of(runs) == len(runs) <= MOST_RUNS and not [event for event in value if event[0] == "gap"]


def _is_question(shop, value):
    if not is_row(value, 2, 3):
        return False
    if len(value) == 3:
        return value[0] == "kind" and shop.is_thing(value[1]) and shop.is_letter(value[2])
    return (value[0] == "where" and shop.is_thing(value[1])) or (value[0] == "events" and _is_trial(shop, value[1]))


def _fewest(inquiry, trials, most):
    """The fewest trials that settle the question, -1 if so many are not enough."""
    for number in range(most + 1):
        if _tree_of(inquiry, trials, (), number):
            return number
    return -1


def _tree_of(inquiry, trials, tail, number):
    """A tree of at most so many trials behind the tail, () if there is none."""
    if len(inquiry.answers(tail)) == 1:
        return SETTLED
    if number > 0:
        for place, trial in enumerate(trials):
            branches = _branches_of(inquiry, trials, tail, trial, number)
            if branches:
                return "run", place, branches
    return ()


def _branches_of(inquiry, trials, tail, trial, number):
    """The branches of a tree of so many trials that begins with this one, () if there is none."""
    rows = inquiry.told_rows(tail, trial)
    branches = []
    for outcomes in rows:
        tree = _tree_of(inquiry, trials, rows[outcomes], number - 1)
        if not tree:
            return ()
        branches.append((outcomes, tree))
    return tuple(branches)


def _contrary_of(inquiry, trials, tail, number):
    """A contrary to so many trials behind the tail, for which there is no tree."""
    if number == 0:
        one, other = inquiry.answers(tail)[:2]
        return "unlike", inquiry.told_answer(tail, one), inquiry.told_answer(tail, other)
    return "whatever", tuple([_branch_against(inquiry, trials, tail, trial, number) for trial in trials])


def _branch_against(inquiry, trials, tail, trial, number):
    """A possible row of outcomes of the trial, and a contrary to one trial fewer behind it."""
    rows = inquiry.told_rows(tail, trial)
    for outcomes in rows:
        if not _tree_of(inquiry, trials, rows[outcomes], number - 1):
            return outcomes, _contrary_of(inquiry, trials, rows[outcomes], number - 1)
    # Never so: if there were a tree behind each row, there would be one that begins with this trial.
    return ()


def _is_tree(inquiry, trials, tail, number, value):
    """Whether the value is a tree of at most so many trials behind the tail."""
    if value == SETTLED:
        return len(inquiry.answers(tail)) == 1
    if number == 0 or not is_row(value, 3, 3) or value[0] != "run":
        return False
    if not is_integer(value[1], 0, len(trials) - 1):
        return False
    rows = inquiry.told_rows(tail, trials[value[1]])
    if not is_row(value[2], len(rows), len(rows)) or not all([is_row(branch, 2, 2) for branch in value[2]]):
        return False
    if [branch[0] for branch in value[2]] != list(rows):
        return False
    return all([_is_tree(inquiry, trials, rows[row], number - 1, branch[1]) for row, branch in zip(rows, value[2])])


def _is_contrary(inquiry, trials, tail, number, value):
    """Whether the value is a contrary to so many trials behind the tail."""
    if number == 0:
        if not is_row(value, 3, 3) or value[0] != "unlike":
            return False
        return all([inquiry.is_told(tail, told) for told in value[1:]]) and value[1][0] != value[2][0]
    if not is_row(value, 2, 2) or value[0] != "whatever" or not is_row(value[1], len(trials), len(trials)):
        return False
    return all([_is_against(inquiry, trials, tail, number, trial, told) for trial, told in zip(trials, value[1])])


def _is_against(inquiry, trials, tail, number, trial, value):
    """Whether the value is a possible row of outcomes of the trial, and a contrary to one trial fewer behind it."""
    if not is_row(value, 2, 2):
        return False
    rows = inquiry.told_rows(tail, trial)
    behind = [rows[outcomes] for outcomes in rows if outcomes == value[0]]
    return behind != [] and _is_contrary(inquiry, trials, behind[0], number - 1, value[1])

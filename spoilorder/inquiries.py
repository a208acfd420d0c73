"""Inquiries: the answers to a question by a log and by trials that were told behind it."""

from spoilorder.forms import is_row
from spoilorder.logs import fillings_of, told_of
from spoilorder.outlooks import Outlook, outcomes_in
from spoilorder.readings import is_world_of, source_of
from spoilorder.strikes import HELD_KINDS, answer_of, is_as_held
from spoilorder.worlds import World

ASCENDING_WHERES = ("far", "near")


class Inquiry:
    """A question about a log; a tail is a tuple of the events that were told behind the log."""

    def __init__(self, shop, log, question):
        self._shop = shop
        self._log = log
        self._question = question
        self._outlook = Outlook(shop, log)
        self._known = {}

    def told_rows(self, tail, trial):
        """For each possible row of outcomes of the trial, ascending, the tail that goes on with it."""
        found = self._rows_behind(tail, trial)
        return {row: found[row][1] for row in sorted(list(found))}

    def answers(self, tail):
        """The answers, ascending."""
        if tail not in self._known:
            asks_trial = self._question[0] == "events"
            found = self._rows_behind(tail, self._question[1]) if asks_trial else self._tempers_behind(tail)
            self._known[tail] = found
        return sorted(list(self._known[tail]))

    def told_answer(self, tail, answer):
        """(answer, filling, world) for one of the answers."""
        self.answers(tail)
        filling, behind, temper = self._known[tail][answer]
        tempers = {row[0]: row for row in self._outlook.reading(filling, behind).found_tempers}
        if temper:
            tempers[temper[0]] = temper
        for thing in things_asked(self._shop, self._question):
            if thing not in tempers:
                tempers[thing] = (thing, "near", "pass", ())
        world = World(self._shop, tuple([tempers[thing] for thing in sorted(list(tempers))]))
        return answer, filling + outcomes_in(behind[len(tail):]), world

    def is_told(self, tail, value):
        """Whether the value is (answer, filling, world), with any filling and world that answer so."""
        if not is_row(value, 3, 3):
            return False
        trial = self._question[1] if self._question[0] == "events" else ()
        events = self._log + tail + trial
        if value[1] not in fillings_of(self._shop, events):
            return False
        if not is_world_of(self._shop, source_of(self._shop, events, value[1]), value[2]):
            return False
        if trial:
            return value[0] == outcomes_in(told_of(events, value[1])[len(self._log + tail):])
        return self._answers_so(value[2], value[0])

    def _rows_behind(self, tail, trial):
        """The possible rows of outcomes of the trial, each with a filling and the tail that goes on with it."""
        found = {}
        for filling in self._outlook.possible_fillings(tail):
            for behind in self._outlook.tails_behind(filling, tail, trial):
                found[outcomes_in(behind[len(tail):])] = (filling, behind, ())
        return found

    def _tempers_behind(self, tail):
        """The kinds or wheres, each with a filling, the tail, and a temper that is so."""
        found = {}
        fillings = self._outlook.possible_fillings(tail)
        for answer, held in holds_of(self._question):
            for filling in fillings:
                temper = answer_of(self._outlook.reading(filling, tail).source, self._question[1], held)[0]
                if temper:
                    found[answer] = (filling, tail, temper)
        return found

    def _answers_so(self, world, answer):
        """Whether the world has the things asked about, and answers so."""
        if not all([thing in world.things for thing in things_asked(self._shop, self._question)]):
            return False
        temper = world.tempers[world.things.index(self._question[1])]
        return any([told == answer and is_as_held(temper, held) for told, held in holds_of(self._question)])


def holds_of(question):
    """For each answer to a question about a thing what it holds of the temper."""
    if question[0] == "where":
        return [(where, (where, None, ())) for where in ASCENDING_WHERES]
    return [(kind, (None, None, ((question[2], kind),))) for kind in HELD_KINDS]


def things_asked(shop, question):
    """The things that a question about a thing asks about, with the openings of their groups."""
    if question[0] == "events":
        return []
    named = [question[1]]
    if question[0] == "kind" and question[2][0] in ("pass", "fail"):
        named.append(question[2][1])
    return named + [(shop.group_of(thing[0]), 0) for thing in named if thing[1] > 0]

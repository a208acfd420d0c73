"""Point 13 once more: the answers of logs with trials that were told, and trees by trying all trials."""

from spoilorder.logs import fillings
from spoilorder.striking import kinds, possible, wheres
from tests.plain import plain_fillings, told_events
from tests.plain_striking import is_world


def outcome_rows(shop, log, trial):
    """The possible rows of outcomes of the trial's runs behind the log."""
    many = len(fillings(shop, log)[0])
    return sorted({filling[many:] for filling in possible(shop, log + trial)})


def told_behind(log, trial, outcomes):
    return log + tuple(told_events(trial, outcomes))


def answers_of(shop, log, question):
    if question[0] == "kind":
        return list(kinds(shop, log, question[1], question[2]))
    if question[0] == "where":
        return list(wheres(shop, log, question[1]))
    return outcome_rows(shop, log, question[1])


class PlainAsking:
    """Remembers what it found out of each log."""

    def __init__(self, shop, trials, question):
        self.shop, self.trials, self.question = shop, trials, question
        self.known, self.rows = {}, {}

    def answers(self, log):
        if log not in self.known:
            self.known[log] = answers_of(self.shop, log, self.question)
        return self.known[log]

    def behind(self, log, trial):
        """The longer logs by the rows of outcomes of a trial."""
        if (log, trial) not in self.rows:
            rows = outcome_rows(self.shop, log, trial)
            self.rows[log, trial] = {row: told_behind(log, trial, row) for row in rows}
        return self.rows[log, trial]

    def settles(self, log, number):
        """Whether so many trials are enough."""
        if len(self.answers(log)) == 1:
            return True
        return number > 0 and any(
            all(self.settles(longer, number - 1) for longer in self.behind(log, trial).values()) for trial in self.trials)

    def fewest(self, log, most):
        return next((number for number in range(most + 1) if self.settles(log, number)), None)

    def is_tree(self, log, number, value):
        if value == ("settled",):
            return len(self.answers(log)) == 1
        if number == 0 or not isinstance(value, tuple) or len(value) != 3 or value[0] != "run":
            return False
        if value[1].__class__ != int or value[1] not in range(len(self.trials)):
            return False
        rows = self.behind(log, self.trials[value[1]])
        if not isinstance(value[2], tuple) or not all(isinstance(part, tuple) and len(part) == 2 for part in value[2]):
            return False
        if [part[0] for part in value[2]] != list(rows):
            return False
        return all(self.is_tree(rows[part[0]], number - 1, part[1]) for part in value[2])

    def is_contrary(self, log, number, value):
        if not isinstance(value, tuple):
            return False
        if number == 0:
            if len(value) != 3 or value[0] != "unlike" or not all(self.is_told(log, part) for part in value[1:]):
                return False
            return value[1][0] != value[2][0]
        if len(value) != 2 or value[0] != "whatever" or not isinstance(value[1], tuple):
            return False
        if len(value[1]) != len(self.trials):
            return False
        for trial, part in zip(self.trials, value[1]):
            if not isinstance(part, tuple) or len(part) != 2 or part[0] not in list(self.behind(log, trial)):
                return False
            if not self.is_contrary(self.behind(log, trial)[part[0]], number - 1, part[1]):
                return False
        return True

    def is_told(self, log, value):
        """Whether it is (answer, filling, world)."""
        if not isinstance(value, tuple) or len(value) != 3:
            return False
        answer, filling, world = value
        events = log + (self.question[1] if self.question[0] == "events" else ())
        if filling not in plain_fillings(self.shop, events) or not is_world(self.shop, events, filling, world):
            return False
        if self.question[0] == "events":
            return answer == filling[len(fillings(self.shop, log)[0]):]
        thing = self.question[1]
        things = [thing]
        if self.question[0] == "kind" and self.question[2][0] in ("pass", "fail"):
            things.append(self.question[2][1])
        homes = {check: group for group, checks in self.shop.groups for check in checks}
        things += [(homes[check], 0) for check, edition in things if edition]
        if not set(things) <= set(world.things):
            return False
        temper = [temper for temper in world.tempers if temper[0] == thing][0]
        if self.question[0] == "where":
            return answer == temper[1]
        return answer == dict(temper[3]).get(self.question[2], "idle")

    def is_asked(self, log, most, value):
        number = self.fewest(log, most)
        if not isinstance(value, tuple) or not value:
            return False
        if number is None:
            return value[0] == "open" and len(value) == 2 and self.is_contrary(log, most, value[1])
        if value[0] != "settles" or len(value) != 4 or value[1].__class__ != int or value[1] != number:
            return False
        if not self.is_tree(log, number, value[2]):
            return False
        return value[3] is None if number == 0 else self.is_contrary(log, number - 1, value[3])

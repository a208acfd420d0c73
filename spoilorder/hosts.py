"""Hosts: a log that is written deed by deed, what it tells, and what can be taken back."""

from spoilorder.blaming import blamed
from spoilorder.culprits import suspects
from spoilorder.errors import (
    BadChecks, BadLog, BadOutcome, BadWorkers, Full, NoCheck, NoEvent, NothingToUndo, NoWorker, NoWorld)
from spoilorder.forms import ascends, is_integer, is_name, is_row
from spoilorder.logs import MOST_WORKERS, TOLD_OUTCOMES, fillings_of, has_room, untold_of
from spoilorder.pages import Page
from spoilorder.shops import LAST_EDITION
from spoilorder.striking import forecast, possible
from spoilorder.trials import Trial


class Host:
    """A log of some workers; equal to a host with the same shop, workers and deeds."""

    def __init__(self, shop, workers):
        check_workers(workers)
        self._shop = shop
        self._workers = workers
        # A trial puts an older page back.
        self.page = Page((), tuple([(check, 1) for check in shop.checks]), (0, ()), (), None)

    def __eq__(self, other):
        return (isinstance(other, Host) and self._shop == other._shop and self._workers == other._workers
                and self.page.deeds == other.page.deeds)

    def __iter__(self):
        return iter(self.page.events)

    @property
    def shop(self):
        """The shop, as it was passed."""
        return self._shop

    @property
    def workers(self):
        """The workers, as they were passed."""
        return self._workers

    @property
    def log(self):
        """The events so far."""
        return self.page.events

    @property
    def present(self):
        """The present editions, as items, ascending."""
        return self.page.editions

    @property
    def left(self):
        """The checks of the round that have not passed since it began, ascending; () without a round."""
        since, checks = self.page.begun
        passed = [event[2] for event in self.page.events[since:] if event[0] == "run" and event[3] == "pass"]
        return tuple([item[0] for item in self.page.editions if item[0] in checks and item not in passed])

    def fresh(self, worker):
        """Writes that the worker is made fresh."""
        self._check_worker(worker)
        self._write(("fresh", worker), ("fresh", worker))

    def clear(self):
        """Writes that the store is made clear."""
        self._write(("clear",), ("clear",))

    def gap(self, worker):
        """Writes that things ran on the worker of which nothing is known."""
        self._check_worker(worker)
        self._write(("gap", worker), ("gap", worker))

    def run(self, worker, check, outcome=None):
        """Writes a run of the present edition of the check; the number of the event."""
        self._check_worker(worker)
        event = ("run", worker, self._item_of(check), outcome)
        number = len(self.page.events)
        if outcome is not None:
            self._check_outcome(outcome, self.page.events + (event,))
        self._write(("run", worker, check, outcome), event)
        return number

    def tell(self, event, outcome):
        """Tells that the run with this number came out so."""
        run = self._run_at(event)
        events = self.page.events[:event] + (run[:3] + (outcome,),) + self.page.events[event + 1:]
        self._check_outcome(outcome, events)
        self._turn(("tell", event, outcome), events, self.page.editions, self.page.begun)

    def change(self, check):
        """Makes the present edition of the check one higher."""
        changed = self._item_of(check)
        if changed[1] == LAST_EDITION:
            raise Full(self.page.events)
        editions = [(item[0], item[1] + 1) if item == changed else item for item in self.page.editions]
        self._turn(("change", check), self.page.events, tuple(editions), self.page.begun)

    def begin(self, checks):
        """Begins a round of the checks."""
        self._check_checks(checks)
        self._turn(("begin", checks), self.page.events, self.page.editions, (len(self.page.events), checks))

    def back(self):
        """Takes the last deed back."""
        if self.page.ahead is None:
            raise NothingToUndo(None)
        self.page = self.page.ahead

    def possible(self):
        """The fillings of the log with a world, ascending."""
        return possible(self._shop, self.page.events)

    def forecast(self, events=()):
        """For each None of the events behind the log, without events of the log itself, its possible outcomes."""
        if not isinstance(events, tuple):
            raise BadLog(events)
        found = forecast(self._shop, self.page.events + events)
        return found[untold_of(self.page.events):] if events else found

    def suspects(self, event):
        """What can have decided the run with this number."""
        return suspects(self._shop, self.page.events, event, self._run_at(event)[2])

    def blamed(self, prices, most):
        """The cheapest reasons for the log."""
        return blamed(self._shop, self.page.events, prices, most)

    def next(self, worker, checks):
        """The least of the checks that surely passes if it runs on the worker now, None if there is none."""
        self._check_worker(worker)
        self._check_checks(checks)
        log = self.page.events
        if not possible(self._shop, log):
            raise NoWorld(log)
        longer = [log + (("run", worker, item, None),) for item in self.page.editions if item[0] in checks]
        if not all([has_room(events) for events in longer]):
            raise Full(log)
        for events in longer:
            if forecast(self._shop, events)[-1] == ("pass",):
                return events[-1][2][0]
        return None

    def copy(self):
        """An equal host that goes on by itself."""
        twin = Host(self._shop, self._workers)
        twin.page = self.page
        return twin

    def trial(self):
        """For a with block, behind which the host is as it was ahead of it, unless the trial is kept."""
        return Trial(self)

    def tried(self, deed, *, keep=False):
        """What the deed returns, called with the host in a trial that is kept if keep is True."""
        with self.trial() as trial:
            found = deed(self)
            if keep is True:
                trial.keep()
        return found

    def _turn(self, deed, events, editions, begun):
        """Turns to a new page, behind a deed."""
        self.page = Page(events, editions, begun, self.page.deeds + (deed,), self.page)

    def _write(self, deed, event):
        """Writes an event; raises Full if there is no room for it."""
        if not has_room(self.page.events + (event,)):
            raise Full(self.page.events)
        self._turn(deed, self.page.events + (event,), self.page.editions, self.page.begun)

    def _check_worker(self, worker):
        if worker not in self._workers:
            raise NoWorker(worker)

    def _item_of(self, check):
        """The present edition of the check."""
        if check not in self._shop.checks:
            raise NoCheck(check)
        return self.page.editions[self._shop.checks.index(check)]

    def _check_outcome(self, outcome, events):
        """Raises BadOutcome for what is no outcome that is told, or leaves the events without a filling."""
        if outcome not in TOLD_OUTCOMES or not fillings_of(self._shop, events):
            raise BadOutcome(outcome)

    def _run_at(self, number):
        """The run with this number."""
        if not is_integer(number, 0, len(self.page.events) - 1) or self.page.events[number][0] != "run":
            raise NoEvent(number)
        return self.page.events[number]

    def _check_checks(self, checks):
        """Raises BadChecks for what is no ascending tuple of one or more checks of the shop."""
        known = self._shop.checks
        if not is_row(checks, 1, len(known)) or not all([check in known for check in checks]) or not ascends(checks):
            raise BadChecks(checks)


def check_workers(value):
    """Raises BadWorkers for what is no ascending tuple of one to three names."""
    if not is_row(value, 1, MOST_WORKERS) or not all([is_name(worker) for worker in value]) or not ascends(value):
        raise BadWorkers(value)

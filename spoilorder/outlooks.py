"""What can come behind a log: events that are told there, and the worlds that agree with all of it."""

from spoilorder.errors import Full
from spoilorder.logs import MOST_ITEMS, MOST_WORKERS, fillings_of, items_of, told_of, untold_of, workers_of
from spoilorder.readings import readings_of
from spoilorder.worlds import World

OUTCOMES = ("fail", "pass", "skip")
MOST_UNTOLD = 1


class Outlook:
    """A log and all that is told behind it; a tail is a tuple of events that are told."""

    def __init__(self, shop, log):
        self._shop = shop
        self._log = log
        self._fillings = fillings_of(shop, log)
        self._known = {}

    def reading(self, filling, tail):
        """The reading of the log with this filling and the tail behind it, None if a skip there cannot be."""
        key = (filling, tail)
        if key not in self._known:
            rows = readings_of(self._shop, told_of(self._log, filling) + tail)
            self._known[key] = rows[0] if rows else None
        return self._known[key]

    def is_possible(self, filling, tail):
        """Whether a world agrees with the log, this filling and the tail."""
        row = self.reading(filling, tail)
        return row is not None and row.whole

    def possible_fillings(self, tail):
        """The fillings of the log that are possible with the tail behind it, ascending."""
        return [filling for filling in self._fillings if self.is_possible(filling, tail)]

    def tails_behind(self, filling, tail, events):
        """The tails that go on with these events, told in each way that is possible, ascending."""
        tails = [tail]
        for event in events:
            # What is impossible stays so, whatever comes behind it.
            longer = [ahead + (told,) for ahead in tails for told in _tellings(event)]
            tails = [row for row in longer if self.is_possible(filling, row)]
        return tails

    def world(self, filling, tail):
        """A world that agrees with the log, this filling and the tail, which are possible."""
        return World(self._shop, self.reading(filling, tail).found_tempers)


def check_room(log, workers, items):
    """Raises Full if the log has more than one None, or too many workers or items together with these."""
    many = len(set(workers_of(log) + tuple(workers)))
    if untold_of(log) > MOST_UNTOLD or many > MOST_WORKERS or len(set(items_of(log) + tuple(items))) > MOST_ITEMS:
        raise Full(log)


def outcomes_in(tail):
    """The outcomes of the runs of a tail, in their sequence."""
    return tuple([event[3] for event in tail if event[0] == "run"])


def _tellings(event):
    if event[0] != "run":
        return [event]
    return [event[:3] + (outcome,) for outcome in OUTCOMES]

"""Logs as sources of samples, and the tempers that agree with them.

These functions take events that are known to be right, also more of them than a log may have.
"""

from spoilorder.errors import NoWorld
from spoilorder.forms import is_integer
from spoilorder.logs import check_log, fillings_of, samples_of
from spoilorder.strikes import FREE, answer_of, last_of
from spoilorder.worlds import World, temper_agrees, tempers_agree


class LogSamples:
    """The samples of things of a log, a dict as of samples_of; they are told by the numbers of their events."""

    def __init__(self, sampled):
        self._sampled = sampled

    def all_sampled(self):
        """The things that have samples, ascending."""
        return sorted(list(self._sampled))

    def lasts(self, thing, where, struck):
        """For each last letter that is not struck the events of samples by their outcomes."""
        found = {}
        for event, outcome, near, far in self._sampled.get(thing, ()):
            last = last_of(near if where == "near" else far, struck)
            if last not in found:
                found[last] = {}
            if outcome not in found[last]:
                found[last][outcome] = event
        return found

    def sample(self, thing, where, told):
        """The outcome and the letters of the sample at the event that is told, () if there is none."""
        for event, outcome, near, far in self._sampled.get(thing, ()):
            if is_integer(told, event, event):
                return outcome, near if where == "near" else far
        return ()

    def suits(self, temper):
        """Whether the temper agrees with all samples of its thing."""
        return all([temper_agrees(temper, sample) for sample in self._sampled.get(temper[0], ())])

    def fits(self, world):
        """Whether the world agrees with all samples."""
        return tempers_agree(world.tempers, self._sampled)


class Reading:
    """A log with one filling: tempers of all things, or a thing without a temper and its clashes.

    helds has what is held of a thing; of those that are not there nothing is.
    """

    def __init__(self, filling, source, helds):
        self.filling = filling
        self.source = source
        self.whole = True
        self.found_tempers = ()
        self.clashing = ()
        self.clashes = ()
        for thing in source.all_sampled():
            if self.whole:
                self._add(thing, helds.get(thing, FREE))

    def _add(self, thing, held):
        temper, clashes = answer_of(self.source, thing, held)
        if temper:
            self.found_tempers = self.found_tempers + (temper,)
        else:
            self.whole = False
            self.clashing = thing
            self.clashes = clashes


def source_of(shop, events, filling):
    """The samples of the events with this filling."""
    return LogSamples(samples_of(shop, events, filling))


def readings_of(shop, events):
    """A reading for each filling of the events, ascending."""
    return [Reading(filling, source_of(shop, events, filling), {}) for filling in fillings_of(shop, events)]


def possible_readings(shop, log):
    """A reading for each filling of the log; raises BadLog, then NoWorld if none of them has a world."""
    check_log(shop, log)
    rows = readings_of(shop, log)
    if not any([row.whole for row in rows]):
        raise NoWorld(log)
    return rows


def is_world_of(shop, source, value):
    """Whether the value is a world of the shop that agrees with the samples."""
    return isinstance(value, World) and value.shop == shop and source.fits(value)

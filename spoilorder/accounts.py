"""Accounts: a log with one filling as it is read with some reasons, and the reasons that clashes touch there."""

from spoilorder.logs import items_of, origins_of, samples_of, told_of
from spoilorder.readings import LogSamples
from spoilorder.strikes import FREE
from spoilorder.worlds import WILD

TURNED = {"pass": "fail", "fail": "pass"}


class Account:
    """The samples of all things by their names, as source, and what is held of them: which letters are wild."""

    def __init__(self, shop, log, filling, reasons):
        self._shop = shop
        self._log = log
        self._items = items_of(log)
        self._events = _turned(told_of(log, filling), reasons)
        self._leaving = _names_of(self._items, "leaves", reasons)
        self._feeling = _names_of(self._items, "feels", reasons)
        self._sampled = samples_of(shop, self._events, ())
        self.source = LogSamples(self._named_samples())
        self.helds = _helds_of(reasons)

    def held_of(self, thing):
        """What is held of the thing."""
        return self.helds.get(thing, FREE)

    def touched(self, thing, clashes):
        """The reasons that clashes of the thing touch, ascending."""
        found = {}
        for where, strikings, ends in clashes:
            events = list(ends)
            for letter, passing, failing in strikings:
                events.extend([passing, failing])
                found[("wild", thing, letter)] = True
            if len(ends) == 2:
                found[("wild", thing, ())] = True
            for reason in self._touched_by(thing, where, sorted(set(events))):
                found[reason] = True
        return sorted(list(found))

    def _named_samples(self):
        named = {}
        for thing in self._sampled:
            name = self._feeling.get(thing, thing)
            rows = [(event, outcome, self._named(near), self._named(far))
                    for event, outcome, near, far in self._sampled[thing]]
            named[name] = named.get(name, ()) + tuple(rows)
        return named

    def _named(self, letters):
        """The letters with names in the places of items; what is no item stays as it is."""
        return tuple([(word, self._leaving.get(told, told)) for word, told in letters])

    def _touched_by(self, thing, where, events):
        """The lies and editions that the samples of the thing at these events touch, with the letters ahead of them."""
        is_item = thing[1] > 0
        letters = []
        for event in events:
            # An opening has one sample at an event, and editions of a class have one together.
            raw = self._log[event][2] if is_item else thing
            sample = [row for row in self._sampled[raw] if row[0] == event][0]
            letters.extend(origins_of(self._shop, self._events, sample)[where])
        standing = [(event, letter[1]) for event, letter in letters if letter[0] in TURNED and letter[1][1] > 0]
        own = [(event, self._log[event][2]) for event in events] if is_item else []
        found = [("lie", event) for event, _ in own + standing if self._log[event][3] in TURNED]
        found.extend([("leaves", item) for item in self._parting(self._leaving, standing)])
        found.extend([("feels", item) for item in self._parting(self._feeling, own)])
        return found

    def _parting(self, names, standing):
        """The items that are above the least of their class, and at most the greatest of it that stands there."""
        greatest = {names[item]: item for item in sorted([item for _, item in standing])}
        return [item for item in self._items if names[item] < item <= greatest.get(names[item], names[item])]


def _turned(events, reasons):
    """The events with other outcomes where the reasons tell a lie."""
    lies = [reason[1] for reason in reasons if reason[0] == "lie"]
    return tuple([
        event[:3] + (TURNED[event[3]],) if number in lies else event for number, event in enumerate(events)])


def _names_of(items, word, reasons):
    """A dict that has for each of the ascending items the least of its class, parted by reasons of this word."""
    names = {}
    name = ("", 0)
    for item in items:
        if item[0] != name[0] or (word, item) in reasons:
            name = item
        names[item] = name
    return names


def _helds_of(reasons):
    """What is held of things: letters, or first, that the ascending reasons tell as wild."""
    helds = {}
    for reason in reasons:
        if reason[0] == "wild":
            _, thing, letter = reason
            where, first, kinds = helds.get(thing, FREE)
            if letter == ():
                first = WILD
            else:
                kinds = kinds + ((letter, WILD),)
            helds[thing] = (where, first, kinds)
    return helds

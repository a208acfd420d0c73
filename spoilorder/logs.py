"""Logs: events, the outcomes that are not told yet, and the letters and samples that come of them.

The functions whose names end in _of take events that are known to be right, also more of them than a log may have.
"""

from spoilorder.errors import BadFilling, BadLog, NoThing
from spoilorder.forms import is_name, is_row

MOST_EVENTS = 30
MOST_WORKERS = 3
MOST_ITEMS = 5
MOST_UNTOLD = 3
TOLD_OUTCOMES = ("cut", "fail", "pass", "skip")
UNTOLD_OUTCOMES = ("fail", "pass", "skip")


def is_log(shop, value):
    """Whether the value is a log of the shop."""
    if not isinstance(value, tuple) or not all([is_event(shop, event) for event in value]):
        return False
    return has_room(value) and len(fillings_of(shop, value)) > 0


def fillings(shop, log):
    """All fillings of the log, ascending."""
    check_log(shop, log)
    return fillings_of(shop, log)


def letters(shop, log, filling):
    """The letters of the log with this filling, each as (event, worker, letter), in their sequence."""
    check_filling(shop, log, filling)
    found = []
    for number, row in enumerate(letters_of(shop, log, filling)):
        for letter in row:
            found.append((number, log[number][1], letter))
    return tuple(found)


def samples(shop, log, filling, thing):
    """The samples of a thing in the log with this filling, each as (event, outcome, near, far), ascending."""
    check_filling(shop, log, filling)
    if not shop.is_thing(thing):
        raise NoThing(thing)
    return samples_of(shop, log, filling).get(thing, ())


def check_log(shop, log):
    """Raises BadLog for what is no log."""
    if not is_log(shop, log):
        raise BadLog(log)


def check_filling(shop, log, filling):
    """Raises BadLog for what is no log, then BadFilling for what is no filling of it."""
    check_log(shop, log)
    if filling not in fillings_of(shop, log):
        raise BadFilling(filling)


def has_room(events):
    """Whether the events are within the bounds of a log."""
    if len(events) > MOST_EVENTS or len(workers_of(events)) > MOST_WORKERS:
        return False
    return len(items_of(events)) <= MOST_ITEMS and untold_of(events) <= MOST_UNTOLD


def is_event(shop, value):
    """Whether the value has the form of an event."""
    if not is_row(value, 1, 4):
        return False
    word = value[0]
    if word == "clear":
        return len(value) == 1
    if word in ("fresh", "gap"):
        return len(value) == 2 and is_name(value[1])
    if word != "run" or len(value) != 4:
        return False
    return is_name(value[1]) and shop.is_item(value[2]) and (value[3] is None or value[3] in TOLD_OUTCOMES)


def workers_of(events):
    """The workers that the events name, ascending."""
    return tuple(sorted({event[1] for event in events if event[0] != "clear"}))


def items_of(events):
    """The items that the events run, ascending."""
    return tuple(sorted({event[2] for event in events if event[0] == "run"}))


def untold_of(events):
    """How many outcomes of the events are not told yet."""
    return len([event for event in events if _is_untold(event)])


def fillings_of(shop, events):
    """All fillings of the events, ascending."""
    # Each row is a filling of the events so far, and the group that is open behind it on each worker.
    rows = [((), {})]
    for event in events:
        longer = []
        for filling, opened in list(rows):
            for told in _tellings(shop, event, opened):
                added = (told[3],) if _is_untold(event) else ()
                longer.append((filling + added, _opened_behind(shop, told, opened)))
        rows = longer
    return tuple([row[0] for row in rows])


def told_of(events, filling):
    """The events with the outcomes of the filling in the places of None."""
    told = []
    used = 0
    for event in events:
        if _is_untold(event):
            told.append(event[:3] + (filling[used],))
            used += 1
        else:
            told.append(event)
    return tuple(told)


def letters_of(shop, events, filling):
    """For each of the events the list of the letters that it brings."""
    opened = {}
    rows = []
    for number, event in enumerate(told_of(events, filling)):
        if event[0] == "run":
            rows.append(run_letters(shop, number, event, opened.get(event[1], "")))
        elif event[0] == "gap":
            rows.append([("gap", number)])
        else:
            rows.append([])
        opened = _opened_behind(shop, event, opened)
    return rows


def run_letters(shop, number, event, opened):
    """The letters of a run that is told, on a worker where the group opened is open ("" for none)."""
    item = event[2]
    outcome = event[3]
    group = shop.group_of(item[0])
    row = []
    if opened not in ("", group):
        row.append(("close", opened))
    if opened != group:
        tried = "fail" if outcome == "skip" else "pass"
        row.append((tried, (group, 0)))
    if outcome == "cut":
        row.append(("cut", number))
    elif outcome != "skip":
        row.append((outcome, item))
    return row


def samples_of(shop, events, filling):
    """A dict that has the tuple of its samples for each thing that has one."""
    near = {}
    far = ()
    found = {}
    for number, row in enumerate(letters_of(shop, events, filling)):
        event = events[number]
        if event[0] == "fresh":
            near[event[1]] = ()
        elif event[0] == "clear":
            far = ()
        for letter in row:
            ahead = near.get(event[1], ())
            if letter[0] in ("pass", "fail"):
                found[letter[1]] = found.get(letter[1], ()) + ((number, letter[0], ahead, far),)
            near[event[1]] = ahead + (letter,)
            far = far + (letter,)
    return found


def origins_of(shop, events, sample):
    """For near and far (event, letter) of each letter ahead of a sample of the events, all of which are told."""
    event, _, near, far = sample
    worker = events[event][1]
    fresh = max([number for number in range(event) if events[number] == ("fresh", worker)], default=-1)
    clear = max([number for number in range(event) if events[number] == ("clear",)], default=-1)
    brought = []
    for number, row in enumerate(letters_of(shop, events, ())):
        brought.extend([(number, letter) for letter in row])
    beside = [pair for pair in brought if pair[0] > fresh and events[pair[0]][1] == worker]
    # Both begin behind what took all away; the letters from the sample on are none of those ahead of it.
    return {"near": beside[:len(near)], "far": [pair for pair in brought if pair[0] > clear][:len(far)]}


def _is_untold(event):
    return event[0] == "run" and event[3] is None


def _tellings(shop, event, opened):
    """The event with each outcome that it can have where these groups are open on the workers."""
    if event[0] != "run":
        return [event]
    outcomes = UNTOLD_OUTCOMES if _is_untold(event) else (event[3],)
    if opened.get(event[1], "") == shop.group_of(event[2][0]):
        outcomes = [outcome for outcome in outcomes if outcome != "skip"]
    return [event[:3] + (outcome,) for outcome in outcomes]


def _opened_behind(shop, event, opened):
    """The groups that are open on the workers behind an event, as a new dict."""
    behind = dict(opened)
    if event[0] == "run" and event[3] != "skip":
        behind[event[1]] = shop.group_of(event[2][0])
    elif event[0] != "clear":
        behind[event[1]] = ""
    return behind

"""Risks of runs behind a log: a filling by which an item does not pass, and a world that agrees with it."""

from spoilorder.logs import fillings_of, told_of
from spoilorder.outlooks import outcomes_in
from spoilorder.readings import is_world_of, source_of


def risk_of(outlook, runs, loose):
    """(filling, world) by which an item that is not loose does not pass, () if the runs are safe."""
    rows = [(filling, ()) for filling in outlook.possible_fillings(())]
    for number, run in enumerate(runs):
        longer = []
        for filling, tail in list(rows):
            for behind in outlook.tails_behind(filling, tail, (run,)):
                if behind[-1][3] != "pass" and run[2] not in loose:
                    return _finished(outlook, filling, behind, runs[number + 1:])
                longer.append((filling, behind))
        rows = longer
    return ()


def risk_among(outlook, ways, loose):
    """(runs, filling, world) for one of the ways that is not safe, () if all are."""
    for runs in ways:
        risk = risk_of(outlook, runs, loose)
        if risk:
            return runs, risk[0], risk[1]
    return ()


def is_risk(shop, log, runs, loose, filling, world):
    """Whether it is a filling of the log with the runs as risk_of returns it, with a world that agrees."""
    events = log + runs
    if filling not in fillings_of(shop, events):
        return False
    told = told_of(events, filling)[len(log):]
    if all([event[3] == "pass" or event[2] in loose for event in told]):
        return False
    return is_world_of(shop, source_of(shop, events, filling), world)


def _finished(outlook, filling, tail, runs):
    """The filling and a world by which the tail goes on with the other runs."""
    # A world that agrees so far does something at each further run, so there is always a tail that goes on.
    told = tail
    for run in runs:
        told = outlook.tails_behind(filling, told, (run,))[0]
    return filling + outcomes_in(told), outlook.world(filling, told)

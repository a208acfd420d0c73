"""Points 15 and 16 once more: a host that keeps nothing but its deeds, and a driver by the steps of the document."""

from spoilorder import errors
from spoilorder.logs import is_log
from spoilorder.striking import forecast, possible
from tests.plain import plain_fillings

WORDS = ("pass", "fail", "cut", "skip")


class PlainHost:
    """All that a host tells, by its deeds from the first one on."""

    def __init__(self, shop, workers, deeds=()):
        self.shop, self.workers, self.deeds = shop, workers, list(deeds)

    def replayed(self):
        log, present, begun = [], {check: 1 for check in self.shop.checks}, None
        for deed in self.deeds:
            if deed[0] in ("fresh", "clear", "gap"):
                log.append(deed)
            elif deed[0] == "run":
                log.append(("run", deed[1], (deed[2], present[deed[2]]), deed[3]))
            elif deed[0] == "tell":
                log[deed[1]] = log[deed[1]][:3] + (deed[2],)
            elif deed[0] == "change":
                present[deed[1]] += 1
            else:
                begun = (len(log), deed[1])
        return tuple(log), present, begun

    @property
    def log(self):
        return self.replayed()[0]

    @property
    def present(self):
        return tuple(sorted(self.replayed()[1].items()))

    @property
    def left(self):
        log, present, begun = self.replayed()
        if begun is None:
            return ()
        passed = {event[2] for event in log[begun[0]:] if event[0] == "run" and event[3] == "pass"}
        return tuple(check for check in begun[1] if (check, present[check]) not in passed)

    def fits(self, log):
        runs = [event for event in log if event[0] == "run"]
        return len(log) <= 30 and len({run[2] for run in runs}) <= 5 and len(
            [run for run in runs if run[3] is None]) <= 3

    def is_check(self, value):
        return isinstance(value, str) and value in self.shop.checks

    def are_checks(self, value):
        if not isinstance(value, tuple) or not value or not all(self.is_check(check) for check in value):
            return False
        return list(value) == sorted(set(value))

    def is_run(self, number):
        log = self.log
        return number.__class__ == int and 0 <= number < len(log) and log[number][0] == "run"

    def refusal(self, deed):
        """The error that the deed raises, as (class, value), None if it is done."""
        log, present, _ = self.replayed()
        word = deed[0]
        if word in ("fresh", "gap", "run") and not (isinstance(deed[1], str) and deed[1] in self.workers):
            return errors.NoWorker, deed[1]
        if word == "run" and not self.is_check(deed[2]):
            return errors.NoCheck, deed[2]
        if word == "change" and not self.is_check(deed[1]):
            return errors.NoCheck, deed[1]
        if word in ("fresh", "clear", "gap", "run"):
            event = deed if word != "run" else ("run", deed[1], (deed[2], present[deed[2]]), deed[3])
            if word == "run" and deed[3] is not None and not (isinstance(deed[3], str) and deed[3] in WORDS):
                return errors.BadOutcome, deed[3]
            if not plain_fillings(self.shop, log + (event,)):
                return errors.BadOutcome, deed[3]
            return None if self.fits(log + (event,)) else (errors.Full, log)
        if word == "tell":
            if not self.is_run(deed[1]):
                return errors.NoEvent, deed[1]
            if not (isinstance(deed[2], str) and deed[2] in WORDS):
                return errors.BadOutcome, deed[2]
            told = log[:deed[1]] + (log[deed[1]][:3] + (deed[2],),) + log[deed[1] + 1:]
            return None if is_log(self.shop, told) else (errors.BadOutcome, deed[2])
        if word == "change":
            return (errors.Full, log) if present[deed[1]] == 9 else None
        if word == "begin":
            return None if self.are_checks(deed[1]) else (errors.BadChecks, deed[1])
        return None if self.deeds else (errors.NothingToUndo, None)

    def do(self, deed):
        """What the deed returns, which is not refused."""
        if deed[0] == "back":
            self.deeds.pop()
            return None
        number = len(self.log) if deed[0] == "run" else None
        self.deeds.append(deed)
        return number

    def next(self, worker, checks):
        """What next returns or raises, as ("found", check) or (class, value)."""
        log, present, _ = self.replayed()
        if not (isinstance(worker, str) and worker in self.workers):
            return errors.NoWorker, worker
        if not self.are_checks(checks):
            return errors.BadChecks, checks
        if not possible(self.shop, log):
            return errors.NoWorld, log
        runs = [("run", worker, (check, present[check]), None) for check in checks]
        if not all(self.fits(log + (run,)) for run in runs):
            return errors.Full, log
        sure = [run[2][0] for run in runs if forecast(self.shop, log + (run,))[-1] == ("pass",)]
        return "found", sure[0] if sure else None


def do_deed(host, deed):
    """The deed done to a host, by the name of its method."""
    return getattr(host, deed[0])(*deed[1:])


def random_deed(chance, shop, workers, many):
    """A deed that may be done, many being the number of events so far."""
    word = chance.choice(("run",) * 9 + ("tell", "tell", "fresh", "fresh", "clear", "gap", "change", "begin", "back"))
    if word in ("fresh", "gap"):
        return word, chance.choice(workers)
    if word == "run":
        outcome = chance.choice(("pass", "pass", "pass", "fail", "fail", "cut", "skip", None))
        return word, chance.choice(workers), chance.choice(shop.checks), outcome
    if word == "tell":
        return word, chance.randrange(many + 1), chance.choice(WORDS)
    if word == "change":
        return word, chance.choice(shop.checks)
    if word == "begin":
        return word, tuple(sorted(chance.sample(shop.checks, chance.randrange(1, len(shop.checks) + 1))))
    return (word,)


def plain_drive(host, runner, most):
    """The round of a host, step by step."""
    worker, runs = host.workers[0], 0
    fresh, clear = ("fresh", worker), ("clear",)
    while host.left and runs < most:
        check = None
        try:
            check = host.next(worker, host.left)
            if check is None and (not host.log or host.log[-1] != fresh):
                runner.fresh(worker)
                host.fresh(worker)
                check = host.next(worker, host.left)
            if check is None and not (len(host.log) > 1 and host.log[-2] == fresh and host.log[-1] == clear):
                runner.clear()
                host.clear()
                check = host.next(worker, host.left)
        except errors.NoWorld:
            pass
        if check is None:
            check = host.left[0]
        outcome = runner.run(worker, (check, dict(host.present)[check]))
        host.run(worker, check, outcome)
        runs += 1
    return host.left, runs

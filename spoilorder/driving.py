"""Driving: a machine that runs on workers, and a host whose round it runs."""

from spoilorder.errors import BadMost, NoWorker, NoWorld, OtherItems
from spoilorder.forms import is_integer
from spoilorder.hosts import check_workers

HIGHEST_MOST = 20


class Runner:
    """A machine that runs on some workers, from its start on."""

    def __init__(self, machine, workers):
        check_workers(workers)
        self._machine = machine
        self._workers = workers
        self._state = machine.start(len(workers))

    @property
    def machine(self):
        """The machine, as it was passed."""
        return self._machine

    @property
    def workers(self):
        """The workers, as they were passed."""
        return self._workers

    @property
    def state(self):
        """The state of the machine now."""
        return self._state

    def run(self, worker, item):
        """Runs the item on the worker; what comes of it."""
        outcome, self._state = self._machine.after(self._state, self._number_of(worker), item)
        return outcome

    def fresh(self, worker):
        """Makes the worker fresh."""
        self._state = self._machine.freshened(self._state, self._number_of(worker))

    def clear(self):
        """Makes the store clear."""
        self._state = self._machine.cleared(self._state)

    def _number_of(self, worker):
        if worker not in self._workers:
            raise NoWorker(worker)
        return self._workers.index(worker)


def drive(host, runner, most):
    """Runs the host's round, at most so many runs: (checks that are left, how many runs were done)."""
    if not is_integer(most, 0, HIGHEST_MOST):
        raise BadMost(most)
    if not _fits(host, runner):
        raise OtherItems(runner.machine.all_items)
    worker = host.workers[0]
    runs = 0
    while host.left and runs < most:
        check = _chosen(host, runner, worker)
        outcome = runner.run(worker, _present(host, check))
        host.run(worker, check, outcome)
        runs += 1
    return host.left, runs


def _fits(host, runner):
    """Whether the runner has the shop and workers of the host, and the items that are left."""
    if host.shop != runner.machine.shop or host.workers != runner.workers:
        return False
    return all([_present(host, check) in runner.machine.all_items for check in host.left])


def _present(host, check):
    return [item for item in host.present if item[0] == check][0]


def _chosen(host, runner, worker):
    """The check that runs next; the worker is made fresh and the store clear if that is needed."""
    left = host.left
    try:
        found = host.next(worker, left)
    except NoWorld:
        return left[0]
    if found is None and host.log[-1:] != (("fresh", worker),):
        runner.fresh(worker)
        host.fresh(worker)
        found = host.next(worker, left)
    # Taken in their sequence, the last two events can't be these here: the last one is that the worker was made fresh.
    if found is None and host.log[-2:] != (("fresh", worker), ("clear",)):
        runner.clear()
        host.clear()
        found = host.next(worker, left)
    return left[0] if found is None else found

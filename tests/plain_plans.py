"""Point 12 once more: all rows, orders and dealings, and what is safe by all fillings."""

import itertools

from spoilorder.striking import possible
from tests.plain import plain_fillings, told_events
from tests.plain_striking import is_world


def runs_of(worker, order):
    return tuple(("run", worker, item, None) for item in order)


def unsafe_fillings(shop, log, runs, loose):
    """The possible fillings of the log with the runs in which some item that is not loose does not pass."""
    events = log + runs
    found = []
    for filling in plain_fillings(shop, events):
        told = tuple(told_events(events, filling))
        wrong = [event for event in told[len(log):] if event[3] != "pass" and event[2] not in loose]
        if wrong and possible(shop, told) == ((),):
            found.append(filling)
    return found


def is_plain_safe(shop, log, runs, loose=()):
    return not unsafe_fillings(shop, log, runs, loose)


def is_unsafe(shop, log, runs, loose, filling, world):
    """Whether the filling and the world show that the runs are not safe."""
    events = log + runs
    if filling not in plain_fillings(shop, events):
        return False
    told = told_events(events, filling)[len(log):]
    wrong = [event for event in told if event[3] != "pass" and event[2] not in loose]
    return bool(wrong) and is_world(shop, events, filling, world)


def same(value, other):
    return value == other and repr(value) == repr(other)


def all_rows(items, workers):
    found = set()
    for order in itertools.permutations(items):
        for dealt in itertools.product(workers, repeat=len(items)):
            found.add(tuple((worker, tuple(item for item, one in zip(order, dealt) if one == worker)) for worker in workers))
    return sorted(found)


def longest(rows):
    return max(len(row[1]) for row in rows)


def all_interleavings(rows):
    runs = [run for worker, items in rows for run in runs_of(worker, items)]
    found = set()
    for row in itertools.permutations(range(len(runs))):
        order = tuple(runs[place] for place in row)
        if all(tuple(run[2] for run in order if run[1] == worker) == items for worker, items in rows):
            found.add(order)
    return sorted(found, key=repr)


def all_dealings(order, workers):
    return [
        tuple(("run", worker, item, None) for worker, item in zip(dealt, order))
        for dealt in itertools.product(workers, repeat=len(order))]


def all_mended(items, menders, most):
    """All orders with menders, the first ones by size first."""
    found = set()
    for extra in range(most + 1):
        for some in itertools.product(menders, repeat=extra):
            found |= set(itertools.permutations(items + some))
    return sorted(found, key=lambda order: (len(order), order))


def is_book(shop, log, loose, ways, value):
    if not isinstance(value, tuple) or len(value) != len(ways):
        return False
    for (plan, some), entry in zip(ways, value):
        if not isinstance(entry, tuple) or len(entry) != 4 or not same(entry[0], plan):
            return False
        if not any(same(entry[1], runs) for runs in some):
            return False
        if not is_unsafe(shop, log, entry[1], loose, entry[2], entry[3]):
            return False
    return True


def is_plan(shop, log, plans, ways, earlier, word, loose, value):
    """Whether it is (word, plan, book) or ("none", book); earlier tells which plans come ahead of one."""
    if not isinstance(value, tuple) or len(value) not in (2, 3):
        return False
    if len(value) == 2:
        return value[0] == "none" and is_book(shop, log, loose, [(plan, ways(plan)) for plan in plans], value[1])
    if value[0] != word or not any(same(value[1], plan) for plan in plans):
        return False
    if not all(is_plain_safe(shop, log, runs, loose) for runs in ways(value[1])):
        return False
    wanted = [(plan, ways(plan)) for plan in plans if earlier(plan, value[1])]
    return is_book(shop, log, loose, wanted, value[2])


def is_spread(shop, log, items, workers, loose, value):
    return is_plan(shop, log, all_rows(items, workers), all_interleavings,
                   lambda rows, chosen: longest(rows) < longest(chosen), "rows", loose, value)


def is_queue(shop, log, items, workers, loose, value):
    return is_plan(shop, log, sorted(itertools.permutations(items)), lambda order: all_dealings(order, workers),
                   lambda order, chosen: order < chosen, "order", loose, value)


def is_early(items, menders, most, value):
    """Whether it is the beginning of an order with menders."""
    return isinstance(value, tuple) and any(
        same(value, order[:len(value)]) for order in all_mended(items, menders, most))


def is_mended(shop, log, items, menders, worker, most, value):
    orders = all_mended(items, menders, most)
    if not isinstance(value, tuple) or len(value) not in (2, 3):
        return False
    ahead = orders
    if len(value) == 3:
        if value[0] != "order" or not any(same(value[1], order) for order in orders):
            return False
        if not is_plain_safe(shop, log, runs_of(worker, value[1])):
            return False
        ahead = orders[:orders.index(value[1])]
    elif value[0] != "none":
        return False
    book = value[-1]
    if not isinstance(book, tuple) or not all(isinstance(entry, tuple) and len(entry) == 3 for entry in book):
        return False
    if not all(is_early(items, menders, most, entry[0]) for entry in book):
        return False
    if [entry[0] for entry in book] != sorted({entry[0] for entry in book}):
        return False
    for order, filling, world in book:
        if not is_unsafe(shop, log, runs_of(worker, order), (), filling, world):
            return False
        if not is_plain_safe(shop, log, runs_of(worker, order[:-1])):
            return False
    return all(any(order[:len(entry[0])] == entry[0] for entry in book) for order in ahead)

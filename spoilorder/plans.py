"""Plans: runs behind a log that pass in whatever world agrees with it, however workers interleave."""

from spoilorder.arrangements import (
    dealings_of, interleavings_of, is_begun, longest_in, mended_orders, orders_of, rows_of, runs_of)
from spoilorder.errors import BadItems, BadMost, BadRuns, BadWorkers, NoWorker
from spoilorder.forms import ascends, is_integer, is_name, is_row, is_same
from spoilorder.logs import is_event
from spoilorder.outlooks import Outlook, check_room
from spoilorder.readings import possible_readings
from spoilorder.risks import is_risk, risk_among, risk_of

MOST_RUNS = 3
MOST_ITEMS = 3
MOST_WORKERS = 2
MOST_MENDED = 2
MOST_MENDERS = 2
MOST_EXTRA = 2


def is_safe(shop, log, runs, *, loose=()):
    """("safe",), or ("unsafe", filling, world) with a world in which an item that is not loose does not pass."""
    _check_runs(shop, log, runs, loose)
    risk = risk_of(Outlook(shop, log), runs, loose)
    return ("unsafe", risk[0], risk[1]) if risk else ("safe",)


def shows_safe(shop, log, runs, value, *, loose=()):
    """Whether the value is what is_safe can return, whoever made it."""
    _check_runs(shop, log, runs, loose)
    if is_row(value, 3, 3):
        return value[0] == "unsafe" and is_risk(shop, log, runs, loose, value[1], value[2])
    return value == ("safe",) and risk_of(Outlook(shop, log), runs, loose) == ()


def spread(shop, log, items, workers, *, loose=()):
    """("rows", rows, book) with rows each interleaving of which is safe, or ("none", book)."""
    _check_plan(shop, log, items, workers, loose)
    outlook = Outlook(shop, log)
    every = rows_of(items, workers)
    book = []
    for longest in range(1, len(items) + 1):
        added = []
        for rows in every:
            if longest_in(rows) == longest:
                risk = risk_among(outlook, interleavings_of(rows), loose)
                if not risk:
                    return "rows", rows, _sorted_book(book)
                added.append((rows, *risk))
        book.extend(added)
    return "none", _sorted_book(book)


def shows_spread(shop, log, items, workers, value, *, loose=()):
    """Whether the value is what spread can return, whoever made it."""
    _check_plan(shop, log, items, workers, loose)
    every = rows_of(items, workers)
    if not is_row(value, 2, 3):
        return False
    wanted = every
    if len(value) == 3:
        chosen = [rows for rows in every if is_same(value[1], rows)]
        if not chosen or risk_among(Outlook(shop, log), interleavings_of(chosen[0]), loose):
            return False
        wanted = [rows for rows in every if longest_in(rows) < longest_in(chosen[0])]
    ways = [(rows, interleavings_of(rows)) for rows in wanted]
    word = "rows" if len(value) == 3 else "none"
    return value[0] == word and _is_book(shop, log, loose, ways, value[-1])


def queue(shop, log, items, workers, *, loose=()):
    """("order", order, book) with the least order each dealing of which is safe, or ("none", book)."""
    _check_plan(shop, log, items, workers, loose)
    outlook = Outlook(shop, log)
    book = []
    for order in orders_of(items):
        risk = risk_among(outlook, dealings_of(order, workers), loose)
        if not risk:
            return "order", order, tuple(book)
        book.append((order, *risk))
    return "none", tuple(book)


def shows_queue(shop, log, items, workers, value, *, loose=()):
    """Whether the value is what queue can return, whoever made it."""
    _check_plan(shop, log, items, workers, loose)
    every = orders_of(items)
    if not is_row(value, 2, 3):
        return False
    wanted = every
    if len(value) == 3:
        chosen = [order for order in every if is_same(value[1], order)]
        if not chosen or risk_among(Outlook(shop, log), dealings_of(chosen[0], workers), loose):
            return False
        wanted = [order for order in every if order < chosen[0]]
    ways = [(order, dealings_of(order, workers)) for order in wanted]
    word = "order" if len(value) == 3 else "none"
    return value[0] == word and _is_book(shop, log, loose, ways, value[-1])


def mended(shop, log, items, menders, worker, most):
    """("order", order, book) with the shortest, then least order with menders that is safe, or ("none", book)."""
    _check_mended(shop, log, items, menders, worker, most)
    outlook = Outlook(shop, log)
    book = {}
    for order in mended_orders(items, menders, most):
        if not [early for early in book if order[:len(early)] == early]:
            found = _first_risk(outlook, worker, order)
            if not found:
                return "order", order, _sorted_book([book[early] for early in book])
            book[found[0]] = found
    return "none", _sorted_book([book[early] for early in book])


def shows_mended(shop, log, items, menders, worker, most, value):
    """Whether the value is what mended can return, with any book that does."""
    _check_mended(shop, log, items, menders, worker, most)
    outlook = Outlook(shop, log)
    if not is_row(value, 2, 3) or value[0] != ("order" if len(value) == 3 else "none"):
        return False
    wanted = mended_orders(items, menders, most)
    if len(value) == 3:
        chosen = [place for place, order in enumerate(wanted) if is_same(value[1], order)]
        if not chosen or risk_of(outlook, runs_of(worker, value[1]), ()):
            return False
        wanted = wanted[:chosen[0]]
    if not isinstance(value[-1], tuple) or not all([is_row(entry, 3, 3) for entry in value[-1]]):
        return False
    early = [entry[0] for entry in value[-1]]
    if not all([_is_early(shop, items, menders, most, order) for order in early]) or not ascends(early):
        return False
    if not all([any([order[:len(begun)] == begun for begun in early]) for order in wanted]):
        return False
    return all([_is_mended_entry(shop, log, outlook, worker, entry) for entry in value[-1]])


def _check_runs(shop, log, runs, loose):
    possible_readings(shop, log)
    if not is_row(runs, 1, MOST_RUNS) or not all([_is_untold_run(shop, run) for run in runs]):
        raise BadRuns(runs)
    items = tuple([run[2] for run in runs])
    _check_loose(shop, items, loose)
    check_room(log, [run[1] for run in runs], items)


def _check_plan(shop, log, items, workers, loose):
    possible_readings(shop, log)
    _check_items(shop, items, MOST_ITEMS)
    if not is_row(workers, 1, MOST_WORKERS) or not all([is_name(worker) for worker in workers]) or not ascends(workers):
        raise BadWorkers(workers)
    _check_loose(shop, items, loose)
    check_room(log, workers, items)


def _check_mended(shop, log, items, menders, worker, most):
    possible_readings(shop, log)
    _check_items(shop, items, MOST_MENDED)
    if not _are_items(shop, menders, 1, MOST_MENDERS) or any([item in items for item in menders]):
        raise BadItems(menders)
    if not is_name(worker):
        raise NoWorker(worker)
    if not is_integer(most, 0, MOST_EXTRA):
        raise BadMost(most)
    check_room(log, [worker], items + menders)


def _check_items(shop, items, many):
    """Raises BadItems for what are not one to so many items of different checks, ascending."""
    if not _are_items(shop, items, 1, many) or len({item[0] for item in items}) < len(items):
        raise BadItems(items)


def _check_loose(shop, items, loose):
    """Raises BadItems for what are not some of the items, ascending."""
    if not _are_items(shop, loose, 0, len(items)) or not all([item in items for item in loose]):
        raise BadItems(loose)


def _are_items(shop, value, least, most):
    return is_row(value, least, most) and all([shop.is_item(item) for item in value]) and ascends(value)


def _is_untold_run(shop, value):
    return is_event(shop, value) and value[0] == "run" and value[3] is None


def _sorted_book(book):
    return tuple(sorted(book, key=lambda entry: entry[0]))


def _is_book(shop, log, loose, ways, value):
    """Whether the value has just one entry, with one of its ways that is not safe, for each of these plans."""
    if not is_row(value, len(ways), len(ways)):
        return False
    for (plan, some), entry in zip(ways, value):
        if not is_row(entry, 4, 4) or not is_same(entry[0], plan):
            return False
        if not any([is_same(entry[1], runs) for runs in some]):
            return False
        if not is_risk(shop, log, entry[1], loose, entry[2], entry[3]):
            return False
    return True


def _first_risk(outlook, worker, order):
    """(beginning, filling, world) for the shortest beginning of the order that is not safe, () if all are."""
    for size in range(1, len(order) + 1):
        risk = risk_of(outlook, runs_of(worker, order[:size]), ())
        if risk:
            return order[:size], risk[0], risk[1]
    return ()


def _is_early(shop, items, menders, most, value):
    """Whether the value is the beginning of an order with menders."""
    if not isinstance(value, tuple) or not all([shop.is_item(item) for item in value]):
        return False
    return all([item in items + menders for item in value]) and is_begun(value, items, most)


def _is_mended_entry(shop, log, outlook, worker, entry):
    """Whether the entry has an order that is not safe, but is safe without its last item."""
    if not is_risk(shop, log, runs_of(worker, entry[0]), (), entry[1], entry[2]):
        return False
    return risk_of(outlook, runs_of(worker, entry[0][:-1]), ()) == ()

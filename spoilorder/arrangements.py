"""The ways in which items can be run: rows of workers, orders, and the runs that come of them."""


def rows_of(items, workers):
    """All rows that have each of one or two workers and each item once, ascending."""
    found = []
    for order in orders_of(items):
        if len(workers) == 1:
            found.append(((workers[0], order),))
        else:
            for cut in range(len(order) + 1):
                found.append(((workers[0], order[:cut]), (workers[1], order[cut:])))
    return sorted(found)


def longest_in(rows):
    """How many items the longest of the rows has."""
    return max([len(row[1]) for row in rows])


def interleavings_of(rows):
    """All interleavings of the rows of one or two workers."""
    left = runs_of(rows[0][0], rows[0][1])
    right = runs_of(rows[1][0], rows[1][1]) if len(rows) == 2 else ()
    merged = [((), left, right)]
    for _ in range(len(left) + len(right)):
        longer = []
        for runs, first, second in list(merged):
            if first:
                longer.append((runs + first[:1], first[1:], second))
            if second:
                longer.append((runs + second[:1], first, second[1:]))
        merged = longer
    return [row[0] for row in merged]


def orders_of(items):
    """All orders of the items, ascending."""
    return mended_orders(items, (), 0)


def dealings_of(order, workers):
    """All dealings of the order to the workers."""
    rows = [()]
    for item in order:
        rows = [row + (("run", worker, item, None),) for row in rows for worker in workers]
    return rows


def mended_orders(items, menders, most):
    """All orders with each of the items once and at most so many runs of menders, the first ones by size first."""
    both = sorted(items + menders)
    found = []
    for extra in range(most + 1):
        rows = [()]
        for _ in range(len(items) + extra):
            rows = [row + (item,) for row in rows for item in both if _goes_on(row, item, items, extra)]
        found.extend(rows)
    return found


def is_begun(order, items, most):
    """Whether the order of items and menders can go on to one of the mended orders."""
    return all([_goes_on(order[:place], item, items, most) for place, item in enumerate(order)])


def runs_of(worker, order):
    """Runs of the order on one worker, not told yet."""
    return tuple([("run", worker, item, None) for item in order])


def _goes_on(row, item, items, extra):
    """Whether the item can come behind the row, with each of the items once and so many menders."""
    if item in items:
        return item not in row
    return len([one for one in row if one not in items]) < extra

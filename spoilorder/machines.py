"""What machines do: where a thing fails, what parts two machines, what an order that fails shrinks to."""

from spoilorder.errors import BadMany, NoThing, NotFailing, OtherItems, TooMany
from spoilorder.forms import ascends, is_integer, is_row, is_same
from spoilorder.moves import are_moves, moved, moves_of
from spoilorder.states import are_items_of, is_thing_of

MOST_PAIRS = 400
MOST_WORKERS = 2


def worst(machine, thing):
    """("fails", order) with the first order at whose last run the thing fails, or ("never", states)."""
    _check_thing(machine, thing)
    orders = {machine.start(1): ()}
    states = list(orders)
    place = 0
    while place < len(states):
        state = states[place]
        place += 1
        for item in machine.all_items:
            outcome, behind = machine.after(state, 0, item)
            if _fails(machine, thing, item, outcome):
                return "fails", orders[state] + (item,)
            if behind not in orders:
                orders[behind] = orders[state] + (item,)
                states.append(behind)
    return "never", tuple(sorted(states))


def shows_worst(machine, thing, value):
    """Whether the value is what worst can return, with any order at whose last run the thing fails."""
    _check_thing(machine, thing)
    if not is_row(value, 2, 2):
        return False
    if value[0] != "fails":
        return value == worst(machine, thing)
    if not are_items_of(machine, value[1]) or value[1] == ():
        return False
    return _fails(machine, thing, value[1][-1], _last_outcome(machine, value[1]))


def alike(one, other, many):
    """("parts", moves) with the first row of moves that comes out unlike at its end, or ("alike", pairs)."""
    _check_pair(one, other, many)
    moves = moves_of(one, many)
    start = (one.start(many), other.start(many))
    rows = {start: ()}
    pairs = [start]
    while pairs:
        # Here the pairs are just those of all rows that are shorter than any that can still part.
        if len(rows) > MOST_PAIRS:
            raise TooMany(MOST_PAIRS)
        behind = []
        for pair in list(pairs):
            for move in moves:
                outcome, state = moved(one, pair[0], move)
                unlike, beside = moved(other, pair[1], move)
                if outcome != unlike:
                    return "parts", rows[pair] + (move,)
                if (state, beside) not in rows:
                    rows[(state, beside)] = rows[pair] + (move,)
                    behind.append((state, beside))
        pairs = behind
    return "alike", tuple(sorted(list(rows)))


def shows_alike(one, other, many, value):
    """Whether the value is what alike can return, with any row of moves that comes out unlike at its end."""
    found = alike(one, other, many)
    if not is_row(value, 2, 2):
        return False
    if value[0] != "parts":
        return value == found
    return are_moves(one, many, value[1]) and _parts_last(one, other, many, value[1])


def shrunk(machine, order):
    """("kept", places, heights): the first places of the order that suffice, and all states on the way."""
    _check_failing(machine, order)
    last = len(order) - 1
    kept = {machine.start(1): ()}
    heights = []
    for place, item in enumerate(order):
        heights.extend([(place, state, len(kept[state])) for state in kept])
        if place < last:
            kept = _kept_behind(machine, kept, place, item)
    ends = [kept[state] + (last,) for state in kept if machine.after(state, 0, order[last])[0] == "fail"]
    return "kept", min(ends, key=_by_size), tuple(sorted(heights))


def shows_shrunk(machine, order, value):
    """Whether the value is what shrunk can return, with any places of least number."""
    found = shrunk(machine, order)
    if not is_row(value, 3, 3) or value[0] != "kept" or not is_row(value[1], len(found[1]), len(found[1])):
        return False
    places = value[1]
    if not all([is_integer(place, 0, len(order) - 1) for place in places]) or not ascends(places):
        return False
    if places[-1] != len(order) - 1 or not is_same(value[2], found[2]):
        return False
    return _last_outcome(machine, tuple([order[place] for place in places])) == "fail"


def _check_thing(machine, thing):
    if not is_thing_of(machine, thing):
        raise NoThing(thing)


def _check_pair(one, other, many):
    if one.shop != other.shop or one.all_items != other.all_items:
        raise OtherItems(other.all_items)
    if not is_integer(many, 1, MOST_WORKERS):
        raise BadMany(many)


def _check_failing(machine, order):
    """Raises BadOrder for what is no order, then NotFailing for one whose last item does not fail."""
    outcomes = machine.outcomes(order)
    if outcomes == () or outcomes[-1] != "fail":
        raise NotFailing(order)


def _fails(machine, thing, item, outcome):
    """Whether the thing fails at a run of the item that came out so."""
    if thing[1] > 0:
        return item == thing and outcome == "fail"
    return machine.shop.group_of(item[0]) == thing[0] and outcome == "skip"


def _last_outcome(machine, order):
    """What comes of the last item of an order of any length."""
    state = machine.start(1)
    outcome = ""
    for item in order:
        outcome, state = machine.after(state, 0, item)
    return outcome


def _parts_last(one, other, many, moves):
    """Whether the machines come out unlike at the last one of the moves, and at none ahead of it."""
    left = one.start(many)
    right = other.start(many)
    unlike = []
    for place, move in enumerate(moves):
        outcome, left = moved(one, left, move)
        beside, right = moved(other, right, move)
        if outcome != beside:
            unlike.append(place)
    return unlike == [len(moves) - 1]


def _by_size(row):
    return len(row), row


def _kept_behind(machine, kept, place, item):
    """For each state behind this place the first row of places that leads to it; kept has those ahead of it."""
    behind = {state: kept[state] for state in kept}
    for state in kept:
        reached = machine.after(state, 0, item)[1]
        row = kept[state] + (place,)
        if reached not in behind or _by_size(row) < _by_size(behind[reached]):
            behind[reached] = row
    return behind

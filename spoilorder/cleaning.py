"""Cleaning programs: the cheapest commands in open and close with which no thing of a glass fails."""

from spoilorder.errors import BadMany, BadOffers, BadPrices, BadText
from spoilorder.forms import ascends, is_integer, is_row, is_same
from spoilorder.glasses import Glass
from spoilorder.moves import are_moves, moved
from spoilorder.roaming import roamed

BLOCKS = ("open", "close")
MOST_OFFERS = 5
HIGHEST_PRICE = 9
MOST_WORKERS = 2


def with_offers(glass, offers):
    """The glass with the lines of the offers."""
    if not is_row(offers, 0, MOST_OFFERS) or not all([_is_offer(glass, offer) for offer in offers]):
        raise BadOffers(offers)
    if not ascends(offers):
        raise BadOffers(offers)
    lines = glass.text.split("\n")
    for offer in offers:
        lines = _with_line(lines, offer)
    try:
        return Glass("\n".join(lines))
    except BadText:
        # Such a line can stand behind all commands of a block, unless it is the eleventh one.
        raise BadOffers(offers)


def cleaned(glass, offers, prices, many):
    """("clean", price, some, states, book) with the cheapest set of offers that cleans, or ("none", book)."""
    _check_cleaned(glass, offers, prices, many)
    roams = [(some, roamed(with_offers(glass, some), many)) for some in _sets_of(offers, prices)]
    book = []
    for some, (states, steps) in roams:
        moves = _failing_row(steps)
        if moves == ():
            return "clean", _price_of(some, offers, prices), some, tuple(sorted(states)), tuple(book)
        book.append((some, moves))
    return "none", tuple(book)


def shows_cleaned(glass, offers, prices, many, value):
    """Whether the value is what cleaned can return, with any rows of moves."""
    found = cleaned(glass, offers, prices, many)
    if not is_row(value, len(found), len(found)) or not is_same(value[:-1], found[:-1]):
        return False
    if not is_row(value[-1], len(found[-1]), len(found[-1])):
        return False
    return all([_is_entry(glass, many, some, entry) for (some, _), entry in zip(found[-1], value[-1])])


def _is_offer(glass, value):
    """Whether the value is (group, block, cell, word) of the glass."""
    if not is_row(value, 4, 4) or value[0] not in [group for group, _ in glass.shop.groups] or value[1] not in BLOCKS:
        return False
    return any([value[2] == name and value[3] in words for name, words, _ in glass.cells])


def _with_line(lines, offer):
    """The lines with that of the offer behind all commands of its block."""
    group, block, cell, word = offer
    spot = lines.index("group " + group) + 1
    for name in BLOCKS:
        added = [f"    set {cell} {word}"]
        if lines[spot] == "  " + name:
            spot += 1
            # Checks follow, so there is a line that is less deep.
            while lines[spot].startswith("    "):
                spot += 1
        else:
            added = ["  " + name] + added
        if name == block:
            return lines[:spot] + added + lines[spot:]
    return lines


def _check_cleaned(glass, offers, prices, many):
    with_offers(glass, offers)
    if not is_row(prices, len(offers), len(offers)):
        raise BadPrices(prices)
    if not all([is_integer(price, 1, HIGHEST_PRICE) for price in prices]):
        raise BadPrices(prices)
    if not is_integer(many, 1, MOST_WORKERS):
        raise BadMany(many)


def _sets_of(offers, prices):
    """All sets of the offers, the cheapest first, of these the least."""
    sets = [()]
    for offer in offers:
        sets = sets + [some + (offer,) for some in sets]
    return sorted(sets, key=lambda some: (_price_of(some, offers, prices), some))


def _price_of(some, offers, prices):
    return sum([price for offer, price in zip(offers, prices) if offer in some])


def _failing_row(steps):
    """A row of moves only the last of which is a run at which a thing fails, () if none fails."""
    rows = {0: ()}
    numbers = [0]
    place = 0
    while place < len(numbers):
        row = rows[numbers[place]]
        for move, letters, behind in steps[numbers[place]]:
            if any([letter[0] == "fail" for letter in letters]):
                return row + (move,)
            if behind not in rows:
                rows[behind] = row + (move,)
                numbers.append(behind)
        place += 1
    return ()


def _is_entry(glass, many, some, value):
    """Whether the value is (some, moves), only the last of which is a run at which a thing fails."""
    machine = with_offers(glass, some)
    if not is_row(value, 2, 2) or not is_same(value[0], some) or not are_moves(machine, many, value[1]):
        return False
    state = machine.start(many)
    failing = []
    for place, move in enumerate(value[1]):
        outcome, state = moved(machine, state, move)
        if outcome in ("fail", "skip"):
            failing.append(place)
    return failing == [len(value[1]) - 1]

"""Blaming: the cheapest reasons for a log that no world explains."""

from spoilorder.accounts import TURNED, Account
from spoilorder.errors import BadMost, BadPrices, Full
from spoilorder.forms import ascends, is_integer, is_row
from spoilorder.logs import check_log, fillings_of, items_of, untold_of
from spoilorder.readings import Reading
from spoilorder.strikes import are_clashes
from spoilorder.worlds import KINDS, WILD, are_kinds

WORDS = ("lie", "leaves", "feels", "wild")
HIGHEST_PRICE = 9
HIGHEST_MOST = 27
MOST_REASONS = 3
MOST_EVENTS = 16
MOST_UNTOLD = 1


def blamed(shop, log, prices, most):
    """("reasons", price, reasons, filling, tempers, book) with the least price, or ("more", book)."""
    _check_blamed(shop, log, prices, most)
    fillings = fillings_of(shop, log)
    coming = {0: {(): True}}
    book = []
    for price in range(most + 1):
        added = []
        level = sorted(list(coming.get(price, {})))
        for reasons in level:
            accounts = [Account(shop, log, filling, reasons) for filling in fillings]
            readings = [Reading(filling, account.source, account.helds)
                        for filling, account in zip(fillings, accounts)]
            for row in readings:
                if row.whole:
                    return "reasons", price, reasons, row.filling, row.found_tempers, _as_book(book)
            rows = tuple([(row.filling, row.clashing, row.clashes) for row in readings])
            added.append((reasons, rows))
            for more in _behind(reasons, accounts, rows):
                dearer = coming.setdefault(_price_of(more, prices), {})
                dearer[more] = True
        # What costs as much as the least that is found stands in no book.
        book.extend(added)
    return "more", _as_book(book)


def shows_blamed(shop, log, prices, most, value):
    """Whether the value is what blamed can return, whoever made it.

    A book with all tuples that come by its own rows shows by itself that nothing cheaper explains the log.
    """
    _check_blamed(shop, log, prices, most)
    if is_row(value, 2, 2):
        return value[0] == "more" and _is_book(shop, log, prices, most + 1, value[1])
    if not is_row(value, 6, 6) or value[0] != "reasons" or not _are_reasons(shop, log, value[2]):
        return False
    price = _price_of(value[2], prices)
    if price > most or not is_integer(value[1], price, price) or value[3] not in fillings_of(shop, log):
        return False
    account = Account(shop, log, value[3], value[2])
    return _explain(shop, account, value[4]) and _is_book(shop, log, prices, price, value[5])


def _check_blamed(shop, log, prices, most):
    check_log(shop, log)
    if not is_row(prices, 4, 4) or not all([is_integer(price, 1, HIGHEST_PRICE) for price in prices]):
        raise BadPrices(prices)
    if not is_integer(most, 0, HIGHEST_MOST):
        raise BadMost(most)
    if len(log) > MOST_EVENTS or untold_of(log) > MOST_UNTOLD:
        raise Full(log)


def _price_of(reasons, prices):
    return sum([prices[WORDS.index(reason[0])] for reason in reasons])


def _behind(reasons, accounts, rows):
    """The tuples that come of these reasons by what the rows touch, by an account for each of them."""
    if len(reasons) == MOST_REASONS:
        return []
    touched = [reason for account, row in zip(accounts, rows) for reason in account.touched(row[1], row[2])]
    return [tuple(sorted(reasons + (reason,))) for reason in touched if reason not in reasons]


def _as_book(book):
    return tuple(sorted(book, key=lambda entry: entry[0]))


def _are_reasons(shop, log, value):
    """Whether the value is an ascending tuple of at most three reasons for the log."""
    if not is_row(value, 0, MOST_REASONS) or not all([_is_reason(shop, log, reason) for reason in value]):
        return False
    return ascends(value)


def _is_reason(shop, log, value):
    if not is_row(value, 2, 3):
        return False
    if len(value) == 3:
        return value[0] == "wild" and shop.is_thing(value[1]) and (value[2] == () or shop.is_letter(value[2]))
    if value[0] == "lie":
        return is_integer(value[1], 0, len(log) - 1) and log[value[1]][0] == "run" and log[value[1]][3] in TURNED
    if value[0] not in ("leaves", "feels") or not shop.is_item(value[1]):
        return False
    # The least edition of a check has none that it could be parted from.
    items = items_of(log)
    return value[1] in items and any([item < value[1] for item in items if item[0] == value[1][0]])


def _explain(shop, account, value):
    """Whether the value has just one temper of each thing that has samples, ascending, and they agree."""
    things = account.source.all_sampled()
    if not is_row(value, len(things), len(things)):
        return False
    return all([_is_temper(shop, account, thing, temper) for thing, temper in zip(things, value)])


def _is_temper(shop, account, thing, value):
    """Whether the value is a temper of the thing that agrees, wild as far as the reasons let."""
    if not is_row(value, 4, 4) or not shop.is_thing(value[0]) or value[0] != thing or value[1] not in ("near", "far"):
        return False
    _, first, kinds = account.held_of(thing)
    if value[2] not in ("pass", "fail", first) or value[2] is None or not are_kinds(shop, value[3], KINDS + (WILD,)):
        return False
    wild = [part for part in value[3] if part[1] == WILD]
    return all([part in kinds for part in wild]) and account.source.suits(value)


def _is_book(shop, log, prices, bound, value):
    """Whether the value has just the tuples below the bound that come of () by its own rows."""
    if not isinstance(value, tuple) or not all([is_row(entry, 2, 2) for entry in value]):
        return False
    if not all([_are_reasons(shop, log, entry[0]) for entry in value]):
        return False
    rows = {entry[0]: entry[1] for entry in value}
    coming = [()] if bound > 0 else []
    found = {reasons: True for reasons in coming}
    while coming:
        reasons = coming.pop()
        accounts = [Account(shop, log, filling, reasons) for filling in fillings_of(shop, log)]
        if reasons not in rows or not _are_rows(shop, log, accounts, rows[reasons]):
            return False
        for more in _behind(reasons, accounts, rows[reasons]):
            if more not in found and _price_of(more, prices) < bound:
                found[more] = True
                coming.append(more)
    return [entry[0] for entry in value] == sorted(list(found))


def _are_rows(shop, log, accounts, value):
    """Whether the value has just one row for each filling, with clashes by its account."""
    if not is_row(value, len(accounts), len(accounts)) or not all([is_row(row, 3, 3) for row in value]):
        return False
    if [row[0] for row in value] != list(fillings_of(shop, log)) or not all([shop.is_thing(row[1]) for row in value]):
        return False
    return all([are_clashes(account.source, row[1], account.held_of(row[1]), row[2])
                for account, row in zip(accounts, value)])

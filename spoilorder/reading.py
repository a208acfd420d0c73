"""Reading shops, logs, worlds and hosts from texts of lines."""

from spoilorder.deeds import deed_of, do_deed
from spoilorder.errors import BadText
from spoilorder.forms import is_name
from spoilorder.hosts import Host
from spoilorder.logs import check_log
from spoilorder.shops import Shop
from spoilorder.wording import OUTCOMES, are_names, item_of, letter_of, lines_of, words_of
from spoilorder.worlds import KINDS, World


def read_shop(text):
    """The shop that has this text."""
    return Shop(tuple(_rows_of(text, _group_of)))


def read_log(shop, text):
    """The log of the shop that has this text."""
    log = tuple(_rows_of(text, _event_of))
    check_log(shop, log)
    return log


def read_world(shop, text):
    """The world of the shop that has this text."""
    _check_text(text)
    tempers = []
    for number, line in enumerate(lines_of(text)):
        words = words_of(line)
        temper = _temper_of(words)
        kind = _kind_of(words)
        if temper:
            tempers.append(temper)
        elif kind and tempers:
            thing, where, first, kinds = tempers[-1]
            tempers[-1] = (thing, where, first, kinds + (kind,))
        else:
            raise BadText(number)
    return World(shop, tuple(tempers))


def read_host(text):
    """The host that has this text."""
    _check_text(text)
    return _host_of(lines_of(text))


def read_torn(text):
    """The host of all lines that end with a line feed, and what stands behind the last line feed."""
    _check_text(text)
    whole, _, rest = text.rpartition("\n")
    return _host_of(lines_of(whole)), rest


def _check_text(text):
    if not isinstance(text, str):
        raise BadText(0)


def _rows_of(text, told_by):
    """What each line of the text tells by the function told_by, which returns () if it tells nothing."""
    _check_text(text)
    rows = []
    for number, line in enumerate(lines_of(text)):
        row = told_by(words_of(line))
        if row == ():
            raise BadText(number)
        rows.append(row)
    return rows


def _host_of(lines):
    """The host that has these lines."""
    workers = _workers_of(words_of(lines[0])) if lines else ()
    if workers == ():
        raise BadText(0)
    groups = []
    deeds = []
    for number, line in enumerate(lines[1:], start=1):
        group = _group_of(words_of(line))
        deed = deed_of(words_of(line))
        if group and not deeds:
            groups.append(group)
        elif deed:
            deeds.append(deed)
        else:
            raise BadText(number)
    host = Host(Shop(tuple(groups)), workers)
    for deed in deeds:
        do_deed(host, deed)
    return host


def _workers_of(words):
    return tuple(words[1:]) if words[:1] == ["workers"] and are_names(words[1:]) else ()


def _group_of(words):
    """(group, checks), () if the words tell none."""
    if words[:1] != ["group"] or len(words) < 3 or not are_names(words[1:]):
        return ()
    return words[1], tuple(words[2:])


def _event_of(words):
    """The event of a log, () if the words tell none."""
    if words == ["clear"]:
        return ("clear",)
    if len(words) == 2 and words[0] in ("fresh", "gap") and is_name(words[1]):
        return words[0], words[1]
    if len(words) != 5 or words[0] != "run" or not is_name(words[1]):
        return ()
    item = item_of(words[2:4])
    return ("run", words[1], item, OUTCOMES[words[4]]) if item and words[4] in OUTCOMES else ()


def _temper_of(words):
    """A temper without kinds, () if the words tell none."""
    if len(words) < 4 or words[-2] not in ("near", "far") or words[-1] not in ("pass", "fail"):
        return ()
    thing = ()
    if words[0] == "opening" and len(words) == 4 and is_name(words[1]):
        thing = (words[1], 0)
    elif words[0] == "thing":
        thing = item_of(words[1:-2])
    return (thing, words[-2], words[-1], ()) if thing else ()


def _kind_of(words):
    """(letter, kind), () if the words tell none."""
    letter = letter_of(words[1:])
    return (letter, words[0]) if letter and words[0] in KINDS else ()

"""Showing shops, logs, worlds and hosts as texts of lines."""

from spoilorder.deeds import deed_line
from spoilorder.logs import check_log
from spoilorder.wording import item_words, letter_words, outcome_word


def show_shop(shop):
    """The text of a shop."""
    return "\n".join(_group_lines(shop))


def show_log(shop, log):
    """The text of a log of the shop."""
    check_log(shop, log)
    return "\n".join([_event_line(event) for event in log])


def show_world(world):
    """The text of a world."""
    lines = []
    for thing, where, first, kinds in world.tempers:
        head = f"opening {thing[0]}" if thing[1] == 0 else f"thing {item_words(thing)}"
        lines.append(f"{head} {where} {first}")
        lines.extend([f"{kind} {letter_words(letter)}" for letter, kind in kinds])
    return "\n".join(lines)


def show_host(host):
    """The text of a host: its workers, its shop, its deeds."""
    deeds = [deed_line(deed) for deed in host.page.deeds]
    return "\n".join([" ".join(["workers"] + list(host.workers))] + _group_lines(host.shop) + deeds)


def _group_lines(shop):
    return [" ".join(["group", group] + list(checks)) for group, checks in shop.groups]


def _event_line(event):
    if event[0] == "run":
        return f"run {event[1]} {item_words(event[2])} {outcome_word(event[3])}"
    return " ".join(list(event))

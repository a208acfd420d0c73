"""Point 19 once more: what a desk answers, by a host and by plain calls of its log."""

from spoilorder.culprits import suspects
from spoilorder.errors import BadLine
from spoilorder.striking import kinds, wheres
from tests.plain_texts import EDITION, HOST_LINES, LETTER, NAME, NAMES, NUMBER, letter_text, letter_told, matched, outcome_of

LINES = {
    **{word: pattern for word, pattern in HOST_LINES.items() if word not in ("workers", "group")},
    "back": "back", "left": "left", "present": "present", "world": "world", "can": "can", "log": "log",
    "next": f"next {NAME} {NAMES}",
    "kinds": f"kinds {NAME} {EDITION} {LETTER}",
    "where": f"where {NAME} {EDITION}",
    "why": f"why {NUMBER}",
    "blame": f"blame {NUMBER} {NUMBER} {NUMBER} {NUMBER} {NUMBER}",
}


def event_text(event):
    if event[0] != "run":
        return " ".join(event)
    return f"run {event[1]} {event[2][0]} {event[2][1]} {'-' if event[3] is None else event[3]}"


def thing_text(thing):
    return thing[0] if thing[1] == 0 else f"{thing[0]} {thing[1]}"


def reason_text(reason):
    if reason[0] == "lie":
        return f"lie {reason[1]}"
    if reason[0] == "wild":
        return f"wild {thing_text(reason[1])} {letter_text(reason[2]) if reason[2] else 'first'}"
    return f"{reason[0]} {reason[1][0]} {reason[1][1]}"


def plain_say(host, line):
    """What a desk with this host answers; raises as it does."""
    found = matched(LINES, line) if isinstance(line, str) else None
    if found is None:
        raise BadLine(line)
    word, told = found
    if word == "run":
        return str(host.run(told[0], told[1], outcome_of(told[2])))
    if word in ("fresh", "clear", "gap", "change", "back"):
        getattr(host, word)(*told)
        return "ok"
    if word == "tell":
        host.tell(int(told[0]), outcome_of(told[1]))
        return "ok"
    if word == "begin":
        host.begin(tuple(told[0].split(" ")))
        return "ok"
    return asked(host, word, told)


def asked(host, word, told):
    log = host.log
    if word in ("left", "present"):
        return ", ".join(host.left if word == "left" else [thing_text(item) for item in host.present]) or "-"
    if word == "world":
        return "yes" if len(host.possible()) else "no"
    if word == "can":
        places = [number for number, event in enumerate(log) if event[0] == "run" and event[3] is None]
        return "; ".join(" ".join((str(k),) + row) for k, row in zip(places, host.forecast())) or "-"
    if word == "log":
        return "; ".join(event_text(event) for event in log) or "-"
    if word == "next":
        return host.next(told[0], tuple(told[1].split(" "))) or "-"
    if word == "kinds":
        return " ".join(kinds(host.shop, log, (told[0], int(told[1])), letter_told(told[2:])))
    if word == "where":
        return " ".join(wheres(host.shop, log, (told[0], int(told[1]))))
    if word == "why":
        number = int(told[0])
        is_run = number < len(log) and log[number][0] == "run"
        found = suspects(host.shop, log, number, log[number][2] if is_run else None)
        return "; ".join("first" if pair == (-1, ()) else f"{pair[0]} {letter_text(pair[1])}" for pair in found)
    found = host.blamed(tuple(int(price) for price in told[:4]), int(told[4]))
    if found[0] == "more":
        return "more"
    return f"{found[1]}" + (": " if found[2] else "") + "; ".join(reason_text(reason) for reason in found[2])

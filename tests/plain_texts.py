"""Point 18 once more: each kind of line as a pattern, and texts written and read by them."""

import re

from spoilorder.hosts import Host
from spoilorder.shops import Shop
from spoilorder.worlds import World

NAME = "([a-z]{1,8})"
NUMBER = "(0|[1-9][0-9]{0,8})"
EDITION = "([1-9][0-9]{0,8})"
OUTCOME = "(pass|fail|cut|skip|-)"
NAMES = "([a-z]{1,8}(?: [a-z]{1,8})*)"
LETTER = f"(?:(pass|fail) {NAME}(?: {EDITION})?|(close) {NAME}|(cut|gap) {NUMBER})"
HOST_LINES = {
    "workers": f"workers {NAMES}",
    "group": f"group {NAME} {NAMES}",
    "fresh": f"fresh {NAME}",
    "clear": "clear",
    "gap": f"gap {NAME}",
    "run": f"run {NAME} {NAME} {OUTCOME}",
    "tell": f"tell {NUMBER} {OUTCOME}",
    "change": f"change {NAME}",
    "begin": f"begin {NAMES}",
}
LOG_LINES = {
    "fresh": f"fresh {NAME}", "clear": "clear", "run": f"run {NAME} {NAME} {EDITION} {OUTCOME}", "gap": f"gap {NAME}"}
WORLD_LINES = {
    "thing": f"thing {NAME} {EDITION} (near|far) (pass|fail)",
    "opening": f"opening {NAME} (near|far) (pass|fail)",
    "mends": f"mends {LETTER}",
    "spoils": f"spoils {LETTER}",
}


def split(text):
    return text.split("\n") if text else []


def matched(lines, line):
    """(word, what stands in the line), None if it is of none of these forms."""
    for word, pattern in lines.items():
        found = re.fullmatch(pattern, line)
        if found:
            return word, found.groups()
    return None


def outcome_of(word):
    return None if word == "-" else word


def first_wrong(lines, rows, fits=lambda number, found, ahead: True):
    """The number of the first line of no form, or that does not fit there; None if there is none."""
    ahead = []
    for number, row in enumerate(rows):
        found = matched(lines, row)
        if found is None or not fits(number, found[0], ahead):
            return number
        ahead.append(found[0])
    return None


def host_fits(number, word, ahead):
    if word == "workers" or number == 0:
        return word == "workers" and number == 0
    return word != "group" or set(ahead) <= {"workers", "group"}


def world_fits(number, word, ahead):
    return word in ("thing", "opening") or number > 0


def letter_told(groups):
    word, thing, edition, close, group, other, event = groups
    if word:
        return word, (thing, int(edition or 0))
    return (close, group) if close else (other, int(event))


def plain_read_host(rows):
    """What has these lines, which are all of right forms and stand where they can."""
    told = [matched(HOST_LINES, row) for row in rows]
    shop = Shop(tuple((row[0], tuple(row[1].split(" "))) for word, row in told if word == "group"))
    host = Host(shop, tuple(told[0][1][0].split(" ")))
    for word, row in told[1:]:
        if word == "begin":
            host.begin(tuple(row[0].split(" ")))
        elif word == "run":
            host.run(row[0], row[1], outcome_of(row[2]))
        elif word == "tell":
            host.tell(int(row[0]), outcome_of(row[1]))
        elif word != "group":
            getattr(host, word)(*row)
    return host


def plain_events(rows):
    found = []
    for row in rows:
        word, told = matched(LOG_LINES, row)
        found.append((word,) + told if word != "run" else (
            "run", told[0], (told[1], int(told[2])), outcome_of(told[3])))
    return tuple(found)


def plain_tempers(rows):
    found = []
    for row in rows:
        word, told = matched(WORLD_LINES, row)
        if word in ("thing", "opening"):
            thing = (told[0], int(told[1])) if word == "thing" else (told[0], 0)
            found.append((thing, told[-2], told[-1], ()))
        else:
            found[-1] = found[-1][:3] + (found[-1][3] + ((letter_told(told), word),),)
    return tuple(found)


def letter_text(letter):
    if letter[0] in ("pass", "fail"):
        return letter[0] + " " + (letter[1][0] if letter[1][1] == 0 else f"{letter[1][0]} {letter[1][1]}")
    return f"{letter[0]} {letter[1]}"


def plain_world_text(world: World):
    lines = []
    for (name, edition), where, first, kinds in world.tempers:
        lines.append(f"thing {name} {edition} {where} {first}" if edition else f"opening {name} {where} {first}")
        lines += [kind + " " + letter_text(letter) for letter, kind in kinds]
    return "\n".join(lines)


def bent_lines(line):
    """The line bent at each place: a word more, fewer or otherwise, blanks, signs."""
    words = line.split(" ")
    for place in range(len(words) + 1):
        yield " ".join(words[:place] + ["x"] + words[place:])
        yield " ".join(words[:place] + ["0"] + words[place:])
        yield " ".join(words[:place] + [""] + words[place:])
    for place in range(len(words)):
        yield " ".join(words[:place] + words[place + 1:])
        for other in ("x", "X", "ninenames", "1", "0", "9", "10", "01", "-1", "+1", "1234567890", "123456789", "-", "--",
                      "pass", "near", "cut", "told", "first", "workers", "a-b", "é", words[place].upper(), words[place] + "\t"):
            yield " ".join(words[:place] + [other] + words[place + 1:])
    yield from (" " + line, line + " ", "\t" + line, line + "\t", line + "\r", line.replace(" ", "\t"), line.upper(), "  " + line)
    yield from ("", " ", line + "#", line + line)

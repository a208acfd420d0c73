"""Desks: a host that is told and asked by lines."""

from spoilorder.culprits import suspects
from spoilorder.deeds import deed_of, do_deed
from spoilorder.errors import BadLine
from spoilorder.reading import read_host
from spoilorder.showing import show_log
from spoilorder.striking import kinds, wheres
from spoilorder.wording import are_names, item_of, item_words, letter_of, letter_words, number_of, thing_words, words_of

DONE = "ok"
NONE = "-"
FIRST = "first"
NUMBERS_OF_BLAME = 5


def _back(host):
    host.back()
    return DONE


def _left(host):
    return _joined(", ", list(host.left))


def _present(host):
    return _joined(", ", [item_words(item) for item in host.present])


def _world(host):
    return "yes" if host.possible() else "no"


def _can(host):
    untold = [number for number, event in enumerate(host.log) if event[0] == "run" and event[3] is None]
    return _joined("; ", [" ".join([f"{number}"] + list(row)) for number, row in zip(untold, host.forecast())])


def _log(host):
    return show_log(host.shop, host.log).replace("\n", "; ") if host.log else NONE


def _next_check(host, words):
    if len(words) < 3 or not are_names(words[1:]):
        return ""
    found = host.next(words[1], tuple(words[2:]))
    return NONE if found is None else found


def _kinds(host, words):
    item = item_of(words[1:3])
    letter = letter_of(words[3:])
    if item == () or letter == ():
        return ""
    return " ".join(kinds(host.shop, host.log, item, letter))


def _where(host, words):
    item = item_of(words[1:])
    return " ".join(wheres(host.shop, host.log, item)) if item else ""


def _why(host, words):
    if len(words) != 2 or number_of(words[1]) < 0:
        return ""
    number = number_of(words[1])
    runs = [event[2] for event in host.log[number:number + 1] if event[0] == "run"]
    found = suspects(host.shop, host.log, number, runs[0] if runs else None)
    return _joined("; ", [FIRST if letter == () else f"{event} {letter_words(letter)}" for event, letter in found])


def _blame(host, words):
    numbers = [number_of(word) for word in words[1:]]
    if len(numbers) != NUMBERS_OF_BLAME or min(numbers) < 0:
        return ""
    found = host.blamed(tuple(numbers[:-1]), numbers[-1])
    if found[0] == "more":
        return "more"
    reasons = "; ".join([_reason_words(reason) for reason in found[2]])
    return f"{found[1]}: {reasons}" if reasons else f"{found[1]}"


# Lines of one word; and by their first words lines of more, to which the answer is "" if they are of no such form.
SHORT = {"back": _back, "left": _left, "present": _present, "world": _world, "can": _can, "log": _log}
LONGER = {"next": _next_check, "kinds": _kinds, "where": _where, "why": _why, "blame": _blame}


class Desk:
    """A host, by its text, that does and answers lines."""

    def __init__(self, text):
        self._host = read_host(text)

    @property
    def host(self):
        """The host."""
        return self._host

    def say(self, line):
        """Does the deed of the line, or answers what it asks."""
        words = words_of(line) if isinstance(line, str) else []
        deed = deed_of(words)
        if deed:
            number = do_deed(self._host, deed)
            return DONE if number is None else f"{number}"
        if len(words) == 1 and words[0] in SHORT:
            short = SHORT[words[0]]
            return short(self._host)
        said = ""
        if words and words[0] in LONGER:
            longer = LONGER[words[0]]
            said = longer(self._host, words)
        if said == "":
            raise BadLine(line)
        return said


def _joined(sign, parts):
    return sign.join(parts) if parts else NONE


def _reason_words(reason):
    word = reason[0]
    if word == "lie":
        return f"lie {reason[1]}"
    if word == "wild":
        letter = FIRST if reason[2] == () else letter_words(reason[2])
        return f"wild {thing_words(reason[1])} {letter}"
    return f"{word} {item_words(reason[1])}"

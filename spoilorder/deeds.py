"""Deeds of hosts: as lines, and done.

A deed is a tuple: ("fresh", worker), ("clear",), ("gap", worker), ("run", worker, check, outcome),
("tell", event, outcome), ("change", check) or ("begin", checks).
"""

from spoilorder.forms import is_name
from spoilorder.wording import OUTCOMES, are_names, number_of, outcome_word


def deed_of(words):
    """The deed that is written so, () if it is none."""
    word = words[0] if words else ""
    if word in ("fresh", "gap", "change") and len(words) == 2 and is_name(words[1]):
        return word, words[1]
    if words == ["clear"]:
        return ("clear",)
    if word == "run" and len(words) == 4 and are_names(words[1:3]) and words[3] in OUTCOMES:
        return word, words[1], words[2], OUTCOMES[words[3]]
    if word == "tell" and len(words) == 3 and number_of(words[1]) >= 0 and words[2] in OUTCOMES:
        return word, number_of(words[1]), OUTCOMES[words[2]]
    if word == "begin" and are_names(words[1:]):
        return word, tuple(words[1:])
    return ()


def deed_line(deed):
    """The line of a deed."""
    word = deed[0]
    if word == "run":
        return f"run {deed[1]} {deed[2]} {outcome_word(deed[3])}"
    if word == "tell":
        return f"tell {deed[1]} {outcome_word(deed[2])}"
    if word == "begin":
        return " ".join(["begin"] + list(deed[1]))
    return " ".join(list(deed))


def do_deed(host, deed):
    """Does the deed; returns what the host returns."""
    word = deed[0]
    if word == "fresh":
        return host.fresh(deed[1])
    if word == "clear":
        return host.clear()
    if word == "gap":
        return host.gap(deed[1])
    if word == "run":
        return host.run(deed[1], deed[2], deed[3])
    if word == "tell":
        return host.tell(deed[1], deed[2])
    if word == "change":
        return host.change(deed[1])
    return host.begin(deed[1])

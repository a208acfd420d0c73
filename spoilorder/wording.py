"""Words of lines: what names, numbers, items, things and letters look like there.

What reads words returns (), -1 for a number, if they are of no such form.
"""

from spoilorder.forms import is_name

DIGITS = "0123456789"
MOST_DIGITS = 9
UNTOLD = "-"
OUTCOMES = {"pass": "pass", "fail": "fail", "cut": "cut", "skip": "skip", "-": None}


def lines_of(text):
    """The lines of a text; the empty one has none."""
    return [] if text == "" else text.split("\n")


def words_of(line):
    """The words of a line, none if they are not separated by one blank each."""
    words = line.split(" ")
    return [] if "" in words else words


def are_names(words):
    """Whether the words are one or more names."""
    return len(words) > 0 and all([is_name(word) for word in words])


def number_of(word):
    """The number that is written so."""
    if not 1 <= len(word) <= MOST_DIGITS or not all([sign in DIGITS for sign in word]):
        return -1
    return -1 if word[0] == "0" and len(word) > 1 else int(word)


def item_of(words):
    """The item that is written so, its edition from 1 on."""
    if len(words) != 2 or not is_name(words[0]) or number_of(words[1]) < 1:
        return ()
    return words[0], number_of(words[1])


def letter_of(words):
    """The letter that is written so."""
    if len(words) < 2:
        return ()
    if words[0] in ("pass", "fail"):
        thing = (words[1], 0) if len(words) == 2 and is_name(words[1]) else item_of(words[1:])
        return (words[0], thing) if thing else ()
    if len(words) > 2:
        return ()
    if words[0] == "close" and is_name(words[1]):
        return "close", words[1]
    if words[0] in ("cut", "gap") and number_of(words[1]) >= 0:
        return words[0], number_of(words[1])
    return ()


def item_words(item):
    """An item, as it is written."""
    return f"{item[0]} {item[1]}"


def thing_words(thing):
    """A thing, as it is written in a letter."""
    return thing[0] if thing[1] == 0 else item_words(thing)


def letter_words(letter):
    """A letter, as it is written."""
    if letter[0] in ("pass", "fail"):
        return f"{letter[0]} {thing_words(letter[1])}"
    return f"{letter[0]} {letter[1]}"


def outcome_word(outcome):
    """An outcome, as it is written."""
    return UNTOLD if outcome is None else outcome

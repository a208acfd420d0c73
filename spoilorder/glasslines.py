"""Reading the text of a glass, line after line: its cells, then its groups with their commands.

A command is a tuple: ("set", cell, word), ("copy", cell, cell), ("want", cell, word), ("fail",) or
("if", cell, word, commands, commands of else). A cell is told there by its place among the cells that
each worker has, with the shared ones behind them.
"""

from spoilorder.errors import BadText
from spoilorder.forms import is_name

KEPT_WORDS = ("cell", "shared", "group", "open", "close", "check", "set", "copy", "to", "want", "fail", "if", "else")
EDITIONS = ("1", "2", "3", "4", "5", "6", "7", "8", "9")
MOST_CELLS = 8
MOST_GROUPS = 3
MOST_ITEMS = 5
MOST_COMMANDS = 10
# Commands of open, close and check stand two deep; an if can stand there, and once more below an if.
FIRST_DEPTH = 2
DEEPEST_IF = 3


def read_glass(text):
    """The cells, the groups, the commands of each thing and those of each closing; raises BadText."""
    reader = GlassReader(text)
    return reader.read_whole()


class GlassReader:
    """Lines that are read one after another; what cannot take the next line raises BadText with its number."""

    def __init__(self, text):
        self._rows = [_split(line) for line in text.split("\n")]
        self._place = 0
        self._cells = []
        self._choices = {}
        self._spots = {}
        self._groups = []
        self._tries = {}
        self._closings = {}
        self._items = {}

    def read_whole(self):
        """Reads all lines."""
        while self._word_at(0) in ("cell", "shared"):
            self._read_cell()
        own = [cell for cell in self._cells if not cell[2]]
        shared = [cell for cell in self._cells if cell[2]]
        self._spots = {cell[0]: spot for spot, cell in enumerate(own + shared)}
        self._read_group()
        while self._place < len(self._rows):
            self._read_group()
        return tuple(self._cells), tuple(self._groups), self._tries, self._closings

    def _words_at(self, depth):
        """The words of the next line, none if it is not as deep or there is none."""
        if self._place == len(self._rows) or self._rows[self._place][0] != depth:
            return []
        return self._rows[self._place][1]

    def _word_at(self, depth):
        """The first word of the next line, "" if it is not as deep or there is none."""
        words = self._words_at(depth)
        return words[0] if words else ""

    def _read_cell(self):
        words = self._words_at(0)
        if len(self._cells) == MOST_CELLS or not 4 <= len(words) <= 5:
            raise BadText(self._place)
        if not all([is_name(word) and word not in KEPT_WORDS for word in words[1:]]):
            raise BadText(self._place)
        if words[1] in self._choices or len(set(words[2:])) < len(words[2:]):
            raise BadText(self._place)
        self._choices[words[1]] = tuple(words[2:])
        self._cells.append((words[1], tuple(words[2:]), words[0] == "shared"))
        self._place += 1

    def _read_group(self):
        words = self._words_at(0)
        if len(words) != 2 or words[0] != "group" or not is_name(words[1]) or len(self._groups) == MOST_GROUPS:
            raise BadText(self._place)
        group = words[1]
        if self._groups and group <= self._groups[-1][0]:
            raise BadText(self._place)
        self._place += 1
        self._tries[(group, 0)] = self._read_block("open", True)
        self._closings[group] = self._read_block("close", False)
        self._groups.append((group, self._read_checks()))

    def _read_block(self, word, failing):
        """The commands of open or close, none if the next line does not begin that block."""
        if self._words_at(1) != [word]:
            return ()
        self._place += 1
        return self._read_commands(FIRST_DEPTH, 1, failing)

    def _read_checks(self):
        """The names of the checks of a group, each once."""
        last = ("", 0)
        checks = []
        while not checks or self._word_at(1) == "check":
            item = self._read_item(last)
            self._tries[item] = self._read_commands(FIRST_DEPTH, 0, True)
            if item[0] != last[0]:
                checks.append(item[0])
            last = item
        return tuple(checks)

    def _read_item(self, last):
        """The item of the next line, which comes behind the last one."""
        words = self._words_at(1)
        if len(words) != 3 or words[0] != "check" or not is_name(words[1]) or words[2] not in EDITIONS:
            raise BadText(self._place)
        item = (words[1], int(words[2]))
        # The same item in two groups counts once, so no group comes to a ninth check.
        if item <= last or (item not in self._items and len(self._items) == MOST_ITEMS):
            raise BadText(self._place)
        self._items[item] = True
        self._place += 1
        return item

    def _read_commands(self, depth, least, failing):
        """The commands of this depth, at least so many; failing is whether want and fail can stand there."""
        commands = []
        while len(commands) < least or self._word_at(depth) not in ("", "else"):
            if len(commands) == MOST_COMMANDS:
                raise BadText(self._place)
            if self._word_at(depth) == "if":
                commands.append(self._read_if(depth, failing))
            else:
                commands.append(self._read_command(depth, failing))
        return tuple(commands)

    def _read_if(self, depth, failing):
        words = self._words_at(depth)
        if depth > DEEPEST_IF or len(words) != 4 or words[2] != "=" or not self._has_word(words[1], words[3]):
            raise BadText(self._place)
        self._place += 1
        commands = self._read_commands(depth + 1, 1, failing)
        others = ()
        if self._words_at(depth) == ["else"]:
            self._place += 1
            others = self._read_commands(depth + 1, 1, failing)
        return "if", self._spots[words[1]], words[3], commands, others

    def _read_command(self, depth, failing):
        command = self._command_of(self._words_at(depth), failing)
        if command == ():
            raise BadText(self._place)
        self._place += 1
        return command

    def _command_of(self, words, failing):
        """The command that the words tell, () if they tell none that can stand there."""
        if words == ["fail"] and failing:
            return ("fail",)
        if len(words) == 3 and (words[0] == "set" or (words[0] == "want" and failing)):
            return (words[0], self._spots[words[1]], words[2]) if self._has_word(words[1], words[2]) else ()
        if len(words) == 4 and words[0] == "copy" and words[2] == "to" and self._are_alike(words[1], words[3]):
            return "copy", self._spots[words[1]], self._spots[words[3]]
        return ()

    def _has_word(self, name, word):
        return word in self._choices.get(name, ())

    def _are_alike(self, name, other):
        """Whether there are both cells, with the same words."""
        return name in self._choices and self._choices[name] == self._choices.get(other, ())


def _split(line):
    """How deep a line is, and its words; -1 and none if they are not separated as they have to be."""
    bare = line.lstrip(" ")
    blanks = len(line) - len(bare)
    words = bare.split(" ")
    if blanks % 2 == 1 or "" in words:
        return -1, []
    return blanks // 2, words

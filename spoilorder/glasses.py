"""Glasses: machines whose checks are written as commands on cells."""

from spoilorder.errors import BadText
from spoilorder.glasslines import read_glass
from spoilorder.shops import Shop
from spoilorder.states import check_number, check_run, first_state, outcomes_of, with_row


class Glass:
    """Checks on cells, as a text tells them; equal to a glass with the same text."""

    def __init__(self, text):
        if not isinstance(text, str):
            raise BadText(0)
        cells, groups, tries, closings = read_glass(text)
        self._text = text
        self._cells = cells
        self._shop = Shop(groups)
        self._tries = tries
        self._closings = closings
        self._things = tuple(sorted(list(tries)))
        self._all_items = tuple([thing for thing in self._things if thing[1] > 0])
        self._first_own = tuple([cell[1][0] for cell in cells if not cell[2]])
        self._first_shared = tuple([cell[1][0] for cell in cells if cell[2]])

    def __eq__(self, other):
        return isinstance(other, Glass) and self._text == other._text

    @property
    def text(self):
        """The text, as it was passed."""
        return self._text

    @property
    def shop(self):
        """The shop that the groups and checks make."""
        return self._shop

    @property
    def all_items(self):
        """The items, ascending."""
        return self._all_items

    @property
    def things(self):
        """The items and openings, ascending."""
        return self._things

    @property
    def cells(self):
        """The cells, each as (name, words, shared), in their sequence."""
        return self._cells

    def start(self, many):
        """The first state of so many workers."""
        return first_state(many, self._first_own, self._first_shared)

    def after(self, state, number, item):
        """What comes of a run of the item on the worker with this number, and the state behind it."""
        check_run(self, state, number, item)
        group = self._shop.group_of(item[0])
        opened, own = state[0][number]
        words = list(own + state[1])
        if opened != group:
            if opened != "":
                _passes(self._closings[opened], words)
            if not _passes(self._tries[(group, 0)], words):
                return "skip", self._with_words(state, number, "", words)
        outcome = "pass" if _passes(self._tries[item], words) else "fail"
        return outcome, self._with_words(state, number, group, words)

    def freshened(self, state, number):
        """The state behind making the worker with this number fresh."""
        check_number(state, number)
        return with_row(state, number, ("", self._first_own))

    def cleared(self, state):
        """The state behind making the store clear."""
        return state[0], self._first_shared

    def outcomes(self, order):
        """What comes of the items of the order, run on one worker from the start on."""
        return outcomes_of(self, order)

    def _with_words(self, state, number, opened, words):
        """The state with this group open on the worker, and these words in its cells and in the shared ones."""
        own = len(self._first_own)
        rows, _ = with_row(state, number, (opened, tuple(words[:own])))
        return rows, tuple(words[own:])


def _passes(commands, words):
    """Does the commands on the list of the words of all cells; whether none of them failed."""
    for command in commands:
        word = command[0]
        if word == "set":
            words[command[1]] = command[2]
        elif word == "copy":
            words[command[2]] = words[command[1]]
        elif word == "if":
            chosen = command[3] if words[command[1]] == command[2] else command[4]
            if not _passes(chosen, words):
                return False
        elif word == "fail" or words[command[1]] != command[2]:
            return False
    return True

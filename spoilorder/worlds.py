"""Worlds: what leaves each thing passing or failing, and the machine that runs the items of a world."""

from spoilorder.errors import BadWorld
from spoilorder.forms import ascends, is_row
from spoilorder.logs import check_filling, samples_of
from spoilorder.states import check_number, check_run, first_state, opened_in, outcomes_of, with_row

MOST_ITEMS = 5
KINDS = ("mends", "spoils")
# A wild letter, a wild first leave a mood that agrees with any outcome; no world has one.
WILD = "wild"
MOODS = {"mends": "pass", "spoils": "fail", "wild": "wild"}


class World:
    """Tempers of things of a shop; equal to a world with the same shop and tempers."""

    def __init__(self, shop, tempers):
        if not _are_tempers(shop, tempers):
            raise BadWorld(tempers)
        self._shop = shop
        self._tempers = tempers
        self._things = tuple([temper[0] for temper in tempers])
        self._all_items = _items_among(tempers)
        near = [temper for temper in tempers if temper[1] == "near"]
        far = [temper for temper in tempers if temper[1] == "far"]
        self._near = tuple([temper[0] for temper in near])
        self._far = tuple([temper[0] for temper in far])
        self._first_near = tuple([temper[2] for temper in near])
        self._first_far = tuple([temper[2] for temper in far])
        self._near_turns = [turns_of(temper) for temper in near]
        self._far_turns = [turns_of(temper) for temper in far]

    def __eq__(self, other):
        return isinstance(other, World) and self._shop == other._shop and self._tempers == other._tempers

    @property
    def shop(self):
        """The shop of the world."""
        return self._shop

    @property
    def tempers(self):
        """The tempers, as they were passed."""
        return self._tempers

    @property
    def things(self):
        """The things that have a temper, ascending."""
        return self._things

    @property
    def all_items(self):
        """The items that have a temper, ascending."""
        return self._all_items

    def agrees(self, log, filling):
        """Whether the world agrees with the log and the filling."""
        check_filling(self._shop, log, filling)
        return tempers_agree(self._tempers, samples_of(self._shop, log, filling))

    def start(self, many):
        """The first state of so many workers."""
        return first_state(many, self._first_near, self._first_far)

    def after(self, state, number, item):
        """What comes of a run of the item on the worker with this number, and the state behind it."""
        check_run(self, state, number, item)
        group = self._shop.group_of(item[0])
        entered = self._entered(state, number, group)
        if opened_in(entered, number) != group:
            return "skip", entered
        return self._tried(entered, number, item)

    def freshened(self, state, number):
        """The state behind making the worker with this number fresh."""
        check_number(state, number)
        return with_row(state, number, ("", self._first_near))

    def cleared(self, state):
        """The state behind making the store clear."""
        return state[0], self._first_far

    def outcomes(self, order):
        """What comes of the items of the order, run on one worker from the start on."""
        return outcomes_of(self, order)

    def _entered(self, state, number, group):
        """The state in which the group has been opened on the worker, or its opening has failed."""
        opened = opened_in(state, number)
        if opened == group:
            return state
        closed = state if opened == "" else self._heard(state, number, ("close", opened))
        outcome, tried = self._tried(closed, number, (group, 0))
        return with_row(tried, number, (group if outcome == "pass" else "", tried[0][number][1]))

    def _tried(self, state, number, thing):
        """The outcome of a thing that is tried on the worker, and the state behind its letter."""
        if thing in self._near:
            outcome = state[0][number][1][self._near.index(thing)]
        else:
            outcome = state[1][self._far.index(thing)]
        return outcome, self._heard(state, number, (outcome, thing))

    def _heard(self, state, number, letter):
        """The state behind a letter that came on the worker with this number."""
        opened, moods = state[0][number]
        rows, store = with_row(state, number, (opened, _turned(self._near_turns, moods, letter)))
        return rows, _turned(self._far_turns, store, letter)


def is_temper(shop, value):
    """Whether the value has the form of a temper of a thing of the shop."""
    if not is_row(value, 4, 4) or not shop.is_thing(value[0]):
        return False
    return value[1] in ("near", "far") and value[2] in ("pass", "fail") and are_kinds(shop, value[3], KINDS)


def are_kinds(shop, value, words):
    """Whether the value is an ascending tuple of (letter, kind), each letter once, each kind one of the words."""
    if not isinstance(value, tuple) or not all([_is_kind(shop, part, words) for part in value]):
        return False
    return ascends([part[0] for part in value])


def turns_of(temper):
    """A dict that has the mood that it brings for each letter of the temper that is not idle."""
    return {letter: MOODS[kind] for letter, kind in temper[3]}


def temper_agrees(temper, sample):
    """Whether the temper agrees with a sample of its thing."""
    turns = turns_of(temper)
    mood = temper[2]
    ahead = sample[2] if temper[1] == "near" else sample[3]
    for letter in ahead:
        mood = turns.get(letter, mood)
    return mood in (sample[1], WILD)


def tempers_agree(tempers, sampled):
    """Whether all things that have samples have a temper, and the tempers agree with them."""
    things = [temper[0] for temper in tempers]
    if not all([thing in things for thing in sampled]):
        return False
    return all([temper_agrees(temper, sample) for temper in tempers for sample in sampled.get(temper[0], ())])


def _is_kind(shop, value, words):
    return is_row(value, 2, 2) and shop.is_letter(value[0]) and value[1] in words


def _are_tempers(shop, value):
    """Whether the value can be the tempers of a world."""
    if not isinstance(value, tuple) or not all([is_temper(shop, temper) for temper in value]):
        return False
    things = [temper[0] for temper in value]
    items = _items_among(value)
    if not ascends(things) or len(items) > MOST_ITEMS:
        return False
    if not all([(shop.group_of(item[0]), 0) in things for item in items]):
        return False
    return all([_is_among(part[0], things) for temper in value for part in temper[3]])


def _is_among(letter, things):
    """Whether a letter is of none but these things, or of no thing at all."""
    return letter[0] not in ("pass", "fail") or letter[1] in things


def _items_among(tempers):
    return tuple([temper[0] for temper in tempers if temper[0][1] > 0])


def _turned(turns, moods, letter):
    """The moods behind a letter, turns having for each of them what letters bring."""
    return tuple([turn.get(letter, mood) for turn, mood in zip(turns, moods)])

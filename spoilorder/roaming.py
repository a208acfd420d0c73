"""All rows of moves of a machine as a source of samples, each of which is told by its row.

The workers are alike, so each sample has a twin with the same letters on worker 0: only these are looked for.
"""

from spoilorder.errors import TooMany
from spoilorder.logs import samples_of
from spoilorder.moves import are_moves, events_of, letters_of_move, moved, moves_of
from spoilorder.strikes import WHERES

MOST_STATES = 400


class Roaming:
    """The samples of all rows of moves of so many workers; raises TooMany."""

    def __init__(self, machine, many):
        self._machine = machine
        self._many = many
        steps = roamed(machine, many)[1]
        self._letters = _letters_among(steps)
        self._tracks = {where: _tracks_of(steps, where) for where in WHERES}
        self._walks = {}

    def lasts(self, thing, where, struck):
        """For each last letter that is not struck rows of moves that are samples, by their outcomes."""
        ways, found = self._walked(where, struck)
        by_last = found.get(thing, {})
        return {last: {outcome: _row_of(ways, by_last[last][outcome]) for outcome in by_last[last]} for last in by_last}

    def sample(self, thing, where, told):
        """The outcome and the letters of the sample that is the row told, () if it is none."""
        if not are_moves(self._machine, self._many, told):
            return ()
        events = events_of(self._machine, self._many, told)
        for event, outcome, near, far in samples_of(self._machine.shop, events, ()).get(thing, ()):
            if event == len(events) - 1:
                return outcome, near if where == "near" else far
        return ()

    def suits(self, temper):
        """Whether the temper agrees with all samples of its thing."""
        thing, where, first, kinds = temper
        told = dict(kinds)
        # With its idle letters struck, the letters that decide are the last ones.
        found = self._walked(where, {letter: True for letter in self._letters if letter not in told})[1]
        by_last = found.get(thing, {})
        for last in by_last:
            right = first if last == () else ("pass" if told[last] == "mends" else "fail")
            if list(by_last[last]) != [right]:
                return False
        return True

    def _walked(self, where, struck):
        """What _walk finds, which is kept, as other things ask for the same."""
        key = (where, tuple(sorted(list(struck))))
        if key not in self._walks:
            self._walks[key] = _walk(self._tracks[where], struck)
        return self._walks[key]


def roamed(machine, many):
    """All states to which rows of moves lead, and for each of them all moves; raises TooMany.

    A move is told as (move, letters, number of the state behind it); states are numbered by their places.
    """
    moves = moves_of(machine, many)
    states = [machine.start(many)]
    numbers = {states[0]: 0}
    steps = []
    while len(steps) < len(states):
        state = states[len(steps)]
        row = []
        for move in moves:
            outcome, behind = moved(machine, state, move)
            if behind not in numbers:
                numbers[behind] = len(states)
                states.append(behind)
            row.append((move, letters_of_move(machine, state, move, outcome), numbers[behind]))
        if len(states) > MOST_STATES:
            raise TooMany(MOST_STATES)
        steps.append(row)
    return states, steps


def _letters_among(steps):
    found = {}
    for row in steps:
        for step in row:
            for letter in step[1]:
                found[letter] = True
    return list(found)


def _tracks_of(steps, where):
    """The steps as the mark on worker 0, or in the store, sees them: (move, whether all is gone, letters, number)."""
    tracks = []
    for row in steps:
        seen = {}
        for move, letters, behind in row:
            gone = move == (("fresh", 0) if where == "near" else ("clear",))
            heard = letters if where == "far" or move[1:2] == (0,) else []
            key = (gone, tuple(heard), behind)
            if key not in seen:
                seen[key] = (move, gone, heard, behind)
        tracks.append(list(seen.values()))
    return tracks


def _walk(tracks, struck):
    """How each pair of a state and a last letter that is not struck is reached, and the samples on the way.

    The samples are a dict of dicts: by thing, last letter and outcome, each told by the pair ahead of it and the move.
    """
    start = (0, ())
    ways = {start: ()}
    pairs = [start]
    found = {}
    place = 0
    while place < len(pairs):
        pair = pairs[place]
        place += 1
        for move, gone, letters, behind in tracks[pair[0]]:
            last = () if gone else pair[1]
            for letter in letters:
                if letter[0] != "close":
                    _note(found, letter, last, (pair, move))
                if letter not in struck:
                    last = letter
            if (behind, last) not in ways:
                ways[(behind, last)] = (pair, move)
                pairs.append((behind, last))
    return ways, found


def _note(found, letter, last, way):
    """Keeps the way to the first sample of its kind."""
    outcome, thing = letter
    by_last = found.setdefault(thing, {})
    by_last.setdefault(last, {}).setdefault(outcome, way)


def _row_of(ways, way):
    """The row of moves to a sample."""
    row = []
    while way:
        row.append(way[1])
        way = ways[way[0]]
    return tuple(row[::-1])

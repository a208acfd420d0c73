"""Point 7: shrunk and shows_shrunk."""

import itertools
import random
import unittest

from spoilorder.errors import BadOrder, NotFailing
from spoilorder.glasses import Glass
from spoilorder.machines import shows_shrunk, shrunk
from spoilorder.worlds import World
from tests.common import A, B, G, V, a_world, any_values, assert_raises, one_group, some_otherwise, two_groups
from tests.plain import random_glass, random_world

ORDER = (B, A, A, V)


def outcome_of(machine, order):
    return machine.outcomes(order)[-1]


def state_behind(machine, items):
    state = machine.start(1)
    for item in items:
        state = machine.after(state, 0, item)[1]
    return state


def plain_places(machine, order):
    """All rows of places that do, the first ones by size first."""
    last = len(order) - 1
    found = []
    for many in range(len(order)):
        for places in itertools.combinations(range(last), many):
            places += (last,)
            if outcome_of(machine, tuple(order[place] for place in places)) == "fail":
                found.append(places)
    return found


def plain_heights(machine, order):
    fewest = {}
    for place in range(len(order)):
        for many in range(place + 1):
            for some in itertools.combinations(order[:place], many):
                fewest.setdefault((place, state_behind(machine, some)), many)
    return tuple(sorted((place, state, many) for (place, state), many in fewest.items()))


def failing_orders(chance, many):
    """Machines and orders whose last item fails."""
    found = []
    while len(found) < many:
        machine = random_world(chance, two_groups()) if chance.random() < 0.6 else random_glass(chance)
        if not machine.all_items:
            continue
        order = tuple(chance.choice(machine.all_items) for _ in range(chance.randrange(1, 9)))
        if outcome_of(machine, order) == "fail":
            found.append((machine, order))
    return found


class ShrunkTest(unittest.TestCase):
    def test_document(self):
        self.assertEqual(shrunk(a_world(), ORDER)[:2], ("kept", (1, 3)))

    def test_heights(self):
        found = shrunk(machine=a_world(), order=ORDER)
        start = a_world().start(1)
        good, bad = ((("g", ("pass",) * 4),), ()), ((("g", ("pass",) * 3 + ("fail",)),), ())
        self.assertEqual(found[2], (
            (0, start, 0), (1, start, 0), (1, good, 1), (2, start, 0), (2, bad, 1), (2, good, 1),
            (3, start, 0), (3, bad, 1), (3, good, 1)))

    def test_against_all_places(self):
        chance = random.Random(21)
        sizes = []
        for machine, order in failing_orders(chance, 120):
            found = shrunk(machine, order)
            self.assertEqual(found, ("kept", plain_places(machine, order)[0], plain_heights(machine, order)))
            self.assertTrue(shows_shrunk(machine, order, found))
            sizes.append((len(order), len(found[1])))
        self.assertGreater(len(set(sizes)), 12)

    def test_one_item_and_twelve(self):
        world = World(one_group(), ((A, "near", "fail", ()), (G, "near", "pass", ())))
        self.assertEqual(shrunk(world, (A,)), ("kept", (0,), ((0, world.start(1), 0),)))
        found = shrunk(world, (A,) * 12)
        self.assertEqual(found[1], (11,))
        self.assertEqual(found[2], plain_heights(world, (A,) * 12))
        self.assertTrue(shows_shrunk(world, (A,) * 12, found))

    def test_least_of_the_fewest(self):
        found = shrunk(a_world(), (A, B, A, A, V))
        self.assertEqual(found[1], (0, 4))
        for places, right in [((2, 4), True), ((3, 4), True), ((1, 4), False), ((0, 2, 4), False), ((0, 4), True)]:
            self.assertEqual(shows_shrunk(a_world(), (A, B, A, A, V), ("kept", places, found[2])), right)

    def test_bad_order(self):
        wrong = [value for value in any_values() if value != ()] + [(A,) * 13, (A, V) * 6 + (V,), [A, V], (A, G), (A, [1])]
        wrong += [(("a", True), V), (A, ("v", 2)), (A, value_of_any_kind()), A]
        for value in wrong:
            assert_raises(self, BadOrder, value, shrunk, a_world(), value)
            assert_raises(self, BadOrder, value, shrunk, machine=a_world(), order=value)
            assert_raises(self, BadOrder, value, shows_shrunk, a_world(), value, ("kept", (), ()))

    def test_not_failing(self):
        for value in [(), (A,), (A, V, B), (V,), (A, B, V), (A, V, A)]:
            assert_raises(self, NotFailing, value, shrunk, a_world(), value)
            assert_raises(self, NotFailing, value, shows_shrunk, machine=a_world(), order=value, value=None)

    def test_skipped_is_not_failing(self):
        world = World(one_group(), ((A, "near", "fail", ()), (G, "near", "fail", ((("fail", G), "mends"),))))
        self.assertEqual(world.outcomes((A, A)), ("skip", "fail"))
        order = (A,)
        assert_raises(self, NotFailing, order, shrunk, world, order)
        self.assertEqual(shrunk(world, (A, A))[1], (0, 1))


def value_of_any_kind():
    return {"a": [1, (2,)]}


class ShowsShrunkTest(unittest.TestCase):
    def setUp(self):
        self.heights = shrunk(a_world(), ORDER)[2]

    def shows(self, places, heights=None, word="kept"):
        return shows_shrunk(a_world(), ORDER, (word, places, self.heights if heights is None else heights))

    def test_places(self):
        self.assertTrue(self.shows((1, 3)))
        self.assertTrue(self.shows((2, 3)))
        for places in [(3,), (1,), (), (0, 3), (0, 1, 3), (1, 2, 3), (0, 1, 2, 3), (1, 2), (3, 1), (1, 1, 3), [1, 3], (1, 4),
                       (-3, 3), (True, 3), (1, 3, 3), ("1", 3), None, (1, None), ((1,), 3), (2, 2)]:
            self.assertFalse(self.shows(places), places)

    def test_three_places(self):
        both = Glass("cell c ok bad\ncell d ok bad\ngroup g\n  check a 1\n    set c bad\n  check b 1\n    set d bad\n"
                     "  check v 1\n    if c = bad\n      want d ok")
        found = shrunk(both, (A, B, V))
        self.assertEqual(found[1], (0, 1, 2))
        self.assertEqual(both.outcomes((B, A, V)), ("pass", "pass", "fail"))
        self.assertFalse(shows_shrunk(both, (A, B, V), ("kept", (1, 0, 2), found[2])))
        twice = Glass("cell c lo mid hi\ngroup g\n  check a 1\n    if c = mid\n      set c hi\n    if c = lo\n      set c mid\n"
                      "  check b 1\n    set c hi\n  check v 1\n    if c = hi\n      fail")
        found = shrunk(twice, (A, A, V))
        self.assertEqual(found[1], (0, 1, 2))
        for places in [(0, 0, 2), (1, 1, 2), (1, 0, 2)]:
            self.assertFalse(shows_shrunk(twice, (A, A, V), ("kept", places, found[2])))
        # A state that two items lead to at first, then one: what counts is the fewest.
        found = shrunk(twice, (A, A, B, V))
        self.assertEqual(found[1], (2, 3))
        self.assertEqual(found[2], plain_heights(twice, (A, A, B, V)))
        self.assertIn((3, ((("g", ("hi",)),), ()), 1), found[2])
        self.assertIn((2, ((("g", ("hi",)),), ()), 2), found[2])

    def test_bool_as_a_place(self):
        world = World(one_group(), ((A, "near", "pass", ((("pass", A), "spoils"),)), (G, "near", "pass", ())))
        found = shrunk(world, (A, A))
        self.assertEqual(found[1], (0, 1))
        self.assertTrue(shows_shrunk(world, (A, A), found))
        for places in [(False, 1), (0, True), (False, True)]:
            self.assertFalse(shows_shrunk(world, (A, A), ("kept", places, found[2])))

    def test_heights(self):
        self.assertTrue(self.shows((1, 3), self.heights))
        place, state, many = self.heights[4]
        for entry in [(place, state, many + 1), (place, state, many - 1), (place + 1, state, many), (place, state, True)]:
            self.assertFalse(self.shows((1, 3), self.heights[:4] + (entry,) + self.heights[5:]))
        self.assertEqual(self.heights[4][2], 1)
        for other in [self.heights[1:], self.heights[::-1], list(self.heights), (), self.heights + self.heights[-1:]]:
            self.assertFalse(self.shows((1, 3), other))
        self.assertFalse(self.shows((1, 3), word="keep"))

    def test_one_thing_otherwise(self):
        chance = random.Random(22)
        for machine, order in failing_orders(chance, 6):
            found = shrunk(machine, order)
            right = [places for places in plain_places(machine, order) if len(places) == len(found[1])]
            for other in some_otherwise(chance, found, 300):
                same = isinstance(other, tuple) and len(other) == 3 and other[0] == "kept" and other[2] == found[2]
                same = same and repr(other[2]) == repr(found[2])
                same = same and other[1] in right and repr(other[1]) in [repr(places) for places in right]
                self.assertEqual(shows_shrunk(machine, order, other), same, other)
            for places in right:
                self.assertTrue(shows_shrunk(machine, order, ("kept", places, found[2])))

    def test_values_of_any_kind(self):
        for value in any_values():
            self.assertIs(shows_shrunk(a_world(), ORDER, value), False)
            self.assertIs(self.shows(value), False)
            self.assertIs(self.shows((value, 3)), value in (1, 2) and value is not True)
            self.assertIs(self.shows((1, 3), (value,)), False)
            self.assertIs(self.shows((1, 3), self.heights[:-1] + (value,)), False)
            self.assertIs(shows_shrunk(a_world(), ORDER, ("kept", (1, 3), value)), False)

    def test_glass(self):
        glass = Glass("cell c ok bad\ngroup g\n  check a 1\n    set c bad\n  check b 1\n  check v 1\n    want c ok")
        found = shrunk(glass, (B, A, B, A, V))
        self.assertEqual(found[1], (1, 4))
        self.assertEqual(found[2], plain_heights(glass, (B, A, B, A, V)))
        self.assertTrue(shows_shrunk(glass, (B, A, B, A, V), ("kept", (3, 4), found[2])))


if __name__ == "__main__":
    unittest.main()

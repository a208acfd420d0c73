"""Point 7: worst and shows_worst."""

import itertools
import random
import unittest

from spoilorder.errors import NoThing
from spoilorder.glasses import Glass
from spoilorder.machines import shows_worst, worst
from spoilorder.worlds import World
from tests.common import A, B, G, H, V, a_world, any_values, assert_raises, one_group, some_otherwise, two_groups
from tests.plain import is_plain_order, random_glass, random_world


def fails_last(machine, thing, order):
    """Whether the thing fails at the last run of the order, by the words of the document."""
    state, outcome = machine.start(1), ""
    for item in order:
        outcome, state = machine.after(state, 0, item)
    if not order:
        return False
    if thing[1] == 0:
        return order[-1][0] in dict(machine.shop.groups)[thing[0]] and outcome == "skip"
    return order[-1] == thing and outcome == "fail"


def states_led_to(machine):
    found, fresh = {machine.start(1)}, [machine.start(1)]
    while fresh:
        fresh = [machine.after(state, 0, item)[1] for state in fresh for item in machine.all_items]
        fresh = list(set(fresh) - found)
        found |= set(fresh)
    return tuple(sorted(found))


def opening_that_fails():
    """g cannot be opened once a passed there, but closing it mends that."""
    kinds = ((("close", "h"), "spoils"), (("fail", G), "mends"))
    plain = [(thing, "near", "pass", ()) for thing in (A, B, H, V)]
    return World(two_groups(), tuple(sorted(plain + [(G, "near", "pass", kinds)])))


class WorstTest(unittest.TestCase):
    def test_document(self):
        self.assertEqual(worst(a_world(), V), ("fails", (A, V)))
        self.assertEqual(worst(a_world(), A)[0], "never")

    def test_never(self):
        for thing in (A, B, G):
            found = worst(machine=a_world(), thing=thing)
            self.assertEqual(found, ("never", states_led_to(a_world())))
            self.assertEqual(found[1], tuple(sorted(set(found[1]))))
            self.assertIn(a_world().start(1), found[1])

    def test_fails_at_first(self):
        tempers = ((A, "near", "fail", ()), (B, "near", "pass", ()), (G, "far", "fail", ((("fail", G), "mends"),)))
        world = World(one_group(), tempers)
        self.assertEqual(worst(world, A), ("fails", (A, A)))
        self.assertEqual(worst(world, G), ("fails", (A,)))
        self.assertEqual(worst(World(one_group(), ((A, "near", "fail", ()), (G, "near", "pass", ()))), A), ("fails", (A,)))

    def test_opening(self):
        # The last one of the order is an item of the opening's group, which is skipped.
        self.assertEqual(worst(opening_that_fails(), G), ("fails", (V, A)))
        self.assertEqual(worst(opening_that_fails(), H)[0], "never")

    def test_opening_without_items(self):
        world = World(two_groups(), ((A, "near", "pass", ()), (G, "near", "pass", ()), (H, "near", "fail", ())))
        self.assertEqual(worst(world, H)[0], "never")

    def test_no_items(self):
        world = World(two_groups(), ((G, "near", "fail", ()),))
        self.assertEqual(worst(world, G), ("never", (world.start(1),)))
        assert_raises(self, NoThing, H, worst, world, H)

    def test_against_all_orders(self):
        chance = random.Random(5)
        seen = []
        for _ in range(60):
            machine = random_world(chance, two_groups()) if chance.random() < 0.6 else random_glass(chance)
            items = machine.all_items
            longest = 4 if len(items) > 3 else 6
            for thing in machine.things:
                found = worst(machine, thing)
                orders = [
                    order for many in range(1, longest + 1) for order in itertools.product(items, repeat=many)
                    if many <= (len(found[1]) if found[0] == "fails" else longest)]
                wrong = [order for order in orders if fails_last(machine, thing, order)]
                if found[0] == "never":
                    self.assertEqual(wrong, [])
                    self.assertEqual(found[1], states_led_to(machine))
                elif len(found[1]) <= longest:
                    self.assertEqual(found[1], wrong[0])
                else:
                    self.assertTrue(fails_last(machine, thing, found[1]))
                self.assertTrue(shows_worst(machine, thing, found))
                seen.append((found[0], thing[1] > 0))
        for kind in itertools.product(("fails", "never"), (True, False)):
            self.assertGreater(seen.count(kind), 10)

    def test_no_thing(self):
        for value in any_values() + [("a", True), ("g", False), ("a", 2), ("h", 0), ["a", 1], (A,), ("pass", A)]:
            assert_raises(self, NoThing, value, worst, a_world(), value)
            assert_raises(self, NoThing, value, worst, machine=a_world(), thing=value)
            assert_raises(self, NoThing, value, shows_worst, a_world(), value, ("fails", (A, V)))


class ShowsWorstTest(unittest.TestCase):
    def test_any_order_that_fails_last(self):
        world = a_world()
        for order in [(A, V), (A, V, V), (A, A, V), (A, V, B, A, V), (A,) * 39 + (V,), (B, A, V) * 13]:
            self.assertTrue(shows_worst(world, V, ("fails", order)))
            self.assertTrue(shows_worst(machine=world, thing=V, value=("fails", order)))

    def test_other_orders(self):
        world = a_world()
        for order in [(), (V,), (A, B, V), (A, V, B), (A, V, A), (A,), [A, V], (A, ["v", 1]), (A, ("v", True)),
                      (A, ("v", 2)), (("a", True), V), (A, G, V), "av", None, (A, ("v", [1])), (("x", 1), A, V), {A: V}]:
            self.assertFalse(shows_worst(world, V, ("fails", order)))
        self.assertFalse(shows_worst(world, A, ("fails", (A, V))))
        self.assertFalse(shows_worst(world, B, ("fails", (A, V))))

    def test_opening(self):
        machine = opening_that_fails()
        for order in [(V, A), (V, B), (A, V, B), (V, V, A)]:
            self.assertTrue(shows_worst(machine, G, ("fails", order)))
            self.assertFalse(shows_worst(machine, A, ("fails", order)))
        for order in [(V, A, A), (V,), (A, V), (V, A, V), ()]:
            self.assertEqual(shows_worst(machine, G, ("fails", order)), fails_last(machine, G, order))
        self.assertFalse(shows_worst(machine, G, ("fails", (V, A, B))))
        self.assertFalse(shows_worst(machine, H, ("fails", (V, A))))

    def test_states(self):
        world = a_world()
        states = worst(world, A)[1]
        self.assertTrue(shows_worst(world, A, ("never", states)))
        # v fails, so that its states are just these does not help.
        self.assertFalse(shows_worst(world, V, ("never", states)))
        more = tuple(sorted(states + (((("g", ("fail",) * 4),), ()),)))
        for other in [states[1:], states[:-1], states + states[-1:], states[::-1], more, list(states), (), (states,)]:
            self.assertFalse(shows_worst(world, A, ("never", other)))

    def test_one_thing_otherwise(self):
        chance = random.Random(6)
        for machine, thing in [(a_world(), A), (a_world(), G), (Glass("group g\n  check a 1"), A)]:
            found = worst(machine, thing)
            for other in some_otherwise(chance, found, 400):
                self.assertFalse(shows_worst(machine, thing, other), other)
        for other in some_otherwise(chance, ("fails", (B, A, V)), 400):
            right = isinstance(other, tuple) and len(other) == 2 and other[0] == "fails"
            right = right and is_plain_order(a_world(), other[1]) and fails_last(a_world(), V, other[1])
            self.assertEqual(shows_worst(a_world(), V, other), right, other)

    def test_values_of_any_kind(self):
        for value in any_values():
            self.assertIs(shows_worst(a_world(), V, value), False)
            self.assertIs(shows_worst(a_world(), A, ("never", value)), False)
            self.assertIs(shows_worst(a_world(), V, ("fails", value)), False)
            self.assertIs(shows_worst(a_world(), V, ("fails", (A, value))), False)
            self.assertIs(shows_worst(a_world(), V, (value, (A, V))), False)


if __name__ == "__main__":
    unittest.main()

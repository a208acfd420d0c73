"""Point 10: glass_of."""

import random
import unittest

from spoilorder.drawing import glass_of
from spoilorder.errors import OtherItems, TooMany
from spoilorder.glasses import Glass
from spoilorder.machines import alike
from spoilorder.shops import Shop
from spoilorder.worlds import World
from tests.common import A, B, G, H, V, a_world, one_group, two_groups

FIVE = Shop((("g", ("a", "b")), ("h", ("m", "v")), ("k", ("w",))))


def every_letter(things, shop):
    letters = [(word, thing) for word in ("pass", "fail") for thing in things]
    return letters + [("close", group) for group, _ in shop.groups] + [("cut", 0), ("cut", 29), ("gap", 3)]


def full_world(chance, shop, items, most):
    """A world with these items and the openings of all groups, with any kinds."""
    things = sorted(items + [(group, 0) for group, _ in shop.groups])
    tempers = []
    for thing in things:
        some = sorted(chance.sample(every_letter(things, shop), chance.randrange(most)))
        kinds = tuple((letter, chance.choice(("mends", "spoils"))) for letter in some)
        tempers.append((thing, chance.choice(("near", "far")), chance.choice(("pass", "pass", "fail")), kinds))
    return World(shop, tuple(tempers))


class GlassOfTest(unittest.TestCase):
    def same_for_some_time(self, chance, world, glass, many):
        """Runs both by the same random moves."""
        left, right = world.start(many), glass.start(many)
        for _ in range(60):
            number, word = chance.randrange(many), chance.choice(("run",) * 9 + ("fresh", "clear"))
            if word == "run":
                item = chance.choice(world.all_items)
                outcome, left = world.after(left, number, item)
                told, right = glass.after(right, number, item)
                self.assertEqual(outcome, told)
            elif word == "fresh":
                left, right = world.freshened(left, number), glass.freshened(right, number)
            else:
                left, right = world.cleared(left), glass.cleared(right)
            self.assertEqual([row[0] for row in left[0]], [row[0] for row in right[0]])

    def check(self, chance, world):
        text = glass_of(world=world)
        self.assertIsInstance(text, str)
        self.assertEqual(glass_of(world), text)
        glass = Glass(text)
        self.assertEqual((glass.shop, glass.all_items), (world.shop, world.all_items))
        for many in (1, 2):
            try:
                self.assertEqual(alike(world, glass, many)[0], "alike")
            except TooMany:
                pass
        for many in (1, 2, 3):
            self.same_for_some_time(chance, world, glass, many)

    def test_small_worlds(self):
        chance = random.Random(71)
        self.check(chance, a_world())
        self.check(chance, World(one_group(), ((A, "far", "fail", ()), (B, "near", "pass", ((("fail", A), "spoils"),)),
                                               (G, "far", "pass", ((("fail", B), "spoils"), (("fail", G), "mends"))), (V, "far", "fail", ()))))

    def test_cuts_and_gaps_count_for_nothing(self):
        chance = random.Random(72)
        kinds = ((("cut", 0), "spoils"), (("cut", 29), "mends"), (("gap", 7), "spoils"))
        tempers = [(thing, "near", "pass", kinds) for thing in (A, B, G, V)]
        self.check(chance, World(one_group(), tuple(tempers)))

    def test_closings(self):
        chance = random.Random(73)
        kinds = ((("close", "g"), "spoils"), (("close", "h"), "mends"))
        tempers = [(thing, "near", "pass", kinds) for thing in (A, B, V, ("w", 1))]
        openings = [(G, "far", "pass", kinds), (H, "near", "fail", ((("close", "g"), "mends"), (("fail", H), "mends")))]
        self.check(chance, World(two_groups(), tuple(sorted(tempers + openings))))

    def test_openings_that_fail(self):
        chance = random.Random(74)
        for first in ("pass", "fail"):
            for where in ("near", "far"):
                kinds = ((("fail", G), "mends"), (("pass", A), "spoils"))
                tempers = (A, "near", "pass", ()), (B, "far", "pass", ((("fail", G), "spoils"),)), (G, where, first, kinds)
                self.check(chance, World(one_group(), tempers + ((V, "near", "pass", ()),)))

    def test_random_worlds(self):
        chance = random.Random(75)
        for _ in range(60):
            self.check(chance, full_world(chance, two_groups(), [A, B, V, ("w", 1)], 7))
            # Of five checks all items, as many as can be; of two checks five editions.
            self.check(chance, full_world(chance, FIVE, [(check, chance.randrange(1, 10)) for check in FIVE.checks], 12))
            editions = [("a", edition) for edition in (1, 3, 9)] + [("v", 2), ("v", 8)]
            self.check(chance, full_world(chance, Shop((("g", ("a",)), ("h", ("v",)))), editions, 9))

    def test_every_letter_has_a_kind(self):
        # The longest rows of commands that can come: each thing turns at each letter.
        chance = random.Random(76)
        items = [(check, 1) for check in FIVE.checks]
        things = sorted(items + [(group, 0) for group, _ in FIVE.groups])
        for _ in range(10):
            letters = sorted(every_letter(things, FIVE))
            self.check(chance, World(FIVE, tuple(
                (thing, chance.choice(("near", "far")), chance.choice(("pass", "fail")),
                 tuple((letter, chance.choice(("mends", "spoils"))) for letter in letters)) for thing in things)))

    def test_names_like_words_of_a_glass(self):
        shop = Shop((("cell", ("check", "fail")), ("open", ("ca", "ok"))))
        chance = random.Random(77)
        self.check(chance, full_world(chance, shop, [("check", 1), ("fail", 2), ("ca", 3), ("ok", 9)], 9))

    def test_other_items(self):
        for world in [World(one_group(), a_world().tempers[1:3]), World(one_group(), ()), World(two_groups(), ()),
                      World(two_groups(), ((G, "near", "pass", ()), (H, "near", "pass", ()))),
                      World(one_group(), ((A, "near", "pass", ()), (("a", 2), "near", "pass", ()), (G, "near", "pass", ())))]:
            with self.assertRaises(OtherItems) as caught:
                glass_of(world)
            self.assertEqual(caught.exception.value, world.all_items)


if __name__ == "__main__":
    unittest.main()

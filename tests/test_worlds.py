"""Point 6: tempers and worlds."""

import random
import unittest

from spoilorder.errors import BadFilling, BadLog, BadWorld
from spoilorder.logs import fillings, is_log
from spoilorder.shops import Shop
from spoilorder.worlds import World
from tests.common import A, B, G, H, V, a_world, any_values, assert_raises, one_group, two_groups
from tests.plain import plain_samples, random_events, random_world

SHOP = two_groups()
OPEN_G = ("pass", G)


def run(worker, item, outcome):
    return ("run", worker, item, outcome)


def temper(thing, where="near", first="pass", kinds=()):
    return (thing, where, first, kinds)


def with_kinds(*kinds):
    return (temper(A, kinds=tuple(kinds)), temper(G))


def with_items(*items):
    """Tempers of these items and of both openings."""
    return tuple(sorted([temper(thing) for thing in items + (G, H)]))


GOOD = {
    "none": (),
    "one item": (temper(A), temper(G)),
    "an opening alone": (temper(G),),
    "openings alone": (temper(G), temper(H)),
    "an opening of another group": (temper(A), temper(G), temper(H)),
    "where and first": ((A, "far", "fail", ()), (G, "far", "pass", ())),
    "five items": with_items(A, B, V, ("v", 2), ("w", 9)),
    "five editions": with_items(*[("a", edition) for edition in range(1, 6)]),
    "every letter": with_kinds(
        (("close", "g"), "mends"), (("close", "h"), "spoils"), (("cut", 0), "mends"), (("cut", 29), "spoils"),
        (("fail", A), "spoils"), (("fail", G), "mends"), (("gap", 0), "spoils"), (("gap", 29), "mends"),
        (("pass", A), "mends"), (("pass", G), "spoils")),
}
BAD = {
    "list": [temper(A), temper(G)],
    "a bare temper": temper(A),
    "list as a temper": (list(temper(A)), temper(G)),
    "three parts": (temper(A)[:3], temper(G)),
    "five parts": (temper(A) + ((),), temper(G)),
    "not ascending": (temper(G), temper(A)),
    "openings not ascending": (temper(H), temper(G)),
    "thing twice": (temper(A), temper(A), temper(G)),
    "thing twice, unlike": (temper(A, "far"), temper(A, "near"), temper(G)),
    "opening twice": (temper(A), temper(G), temper(G, first="pass", where="near")),
    "six items": with_items(A, B, V, ("v", 2), ("w", 1), ("w", 9)),
    "six editions": with_items(*[("a", edition) for edition in range(1, 7)]),
    "no opening": (temper(A),),
    "opening of another group": (temper(A), temper(H)),
    "one opening of two": (temper(A), temper(G), temper(V)),
    "other check": (temper(G), temper(("x", 1))),
    "edition 0": (temper(("a", 0)), temper(G)),
    "edition 10": (temper(("a", 10)), temper(G)),
    "edition True": (temper(("a", True)), temper(G)),
    "opening False": (temper(A), temper(("g", False))),
    "opening 1": (temper(A), temper(G), temper(("g", 1))),
    "list as a thing": (temper(["a", 1]), temper(G)),
    "no thing": (temper("a"), temper(G)),
    "where": (temper(A, "here"), temper(G)),
    "where None": (temper(A, None), temper(G)),
    "where a list": (temper(A, ["near"]), temper(G)),
    "where a bool": (temper(A, True), temper(G)),
    "first skip": (temper(A, first="skip"), temper(G)),
    "first None": (temper(A, first=None), temper(G)),
    "first a dict": (temper(A, first={}), temper(G)),
    "first True": (temper(A, first=True), temper(G)),
    "kinds a list": (temper(A, kinds=[]), temper(G)),
    "kinds a dict": (temper(A, kinds={}), temper(G)),
    "kinds a dict of letters": (temper(A, kinds={OPEN_G: "mends"}), temper(G)),
    "kinds None": (temper(A, kinds=None), temper(G)),
    "a bare kind": (temper(A, kinds=(OPEN_G, "mends")), temper(G)),
    "idle": with_kinds((OPEN_G, "idle")),
    "kind None": with_kinds((OPEN_G, None)),
    "kind a list": with_kinds((OPEN_G, ["mends"])),
    "kind True": with_kinds((OPEN_G, True)),
    "list as a pair": with_kinds([OPEN_G, "mends"]),
    "one part of a pair": with_kinds((OPEN_G,)),
    "three parts of a pair": with_kinds((OPEN_G, "mends", "spoils")),
    "letter twice": with_kinds((OPEN_G, "mends"), (OPEN_G, "spoils")),
    "pair twice": with_kinds((OPEN_G, "mends"), (OPEN_G, "mends")),
    "letters not ascending": with_kinds((OPEN_G, "mends"), (("fail", G), "mends")),
    "letter of an item that is not there": with_kinds((("pass", B), "mends")),
    "letter of an edition that is not there": with_kinds((("pass", ("a", 2)), "mends")),
    "letter of an opening that is not there": with_kinds((("fail", H), "mends")),
    "letter of no thing": with_kinds((("pass", ("x", 1)), "mends")),
    "letter of an edition True": with_kinds((("pass", ("a", True)), "mends")),
    "letter of an opening False": with_kinds((("pass", ("g", False)), "mends")),
    "letter of another group": with_kinds((("close", "x"), "mends")),
    "cut 30": with_kinds((("cut", 30), "mends")),
    "cut -1": with_kinds((("cut", -1), "mends")),
    "cut True": with_kinds((("cut", True), "mends")),
    "gap None": with_kinds((("gap", None), "mends")),
    "list as a letter": with_kinds((["pass", A], "mends")),
    "list as the thing of a letter": with_kinds((("pass", ["a", 1]), "mends")),
    "dict as a letter": with_kinds(({}, "mends")),
    "skip as a letter": with_kinds((("skip", A), "mends")),
    "kinds wrong in the last temper": (temper(A), temper(G, kinds=((("pass", B), "mends"),))),
}


class FormTest(unittest.TestCase):
    def test_good(self):
        for why, tempers in GOOD.items():
            with self.subTest(why):
                world = World(SHOP, tempers)
                self.assertEqual(world.tempers, tempers)
                self.assertEqual(world.shop, SHOP)
                self.assertEqual(world.things, tuple([row[0] for row in tempers]))
                self.assertEqual(world.all_items, tuple([row[0] for row in tempers if row[0] not in (G, H)]))
                self.assertTrue(world == World(shop=SHOP, tempers=tempers))

    def test_bad(self):
        for why, tempers in BAD.items():
            with self.subTest(why):
                assert_raises(self, BadWorld, tempers, World, SHOP, tempers)
                assert_raises(self, BadWorld, tempers, World, shop=SHOP, tempers=tempers)

    def test_any_value(self):
        for value in any_values():
            wrong = [(value,), (temper(A), value), (temper(value), temper(G)), (temper(A, value), temper(G))]
            wrong += [with_kinds(value), with_kinds((value, "mends")), with_kinds((("pass", value), "mends"))]
            wrong += [with_kinds((("close", value), "mends")), with_kinds((OPEN_G, value))]
            wrong += [] if value == () else [value, (temper(A, kinds=value), temper(G))]
            wrong += [] if value == "pass" else [(temper(A, first=value), temper(G))]
            for tempers in wrong:
                assert_raises(self, BadWorld, tempers, World, SHOP, tempers)

    def test_of_this_shop(self):
        tempers = (temper(G), temper(H), temper(("w", 1)))
        self.assertEqual(World(SHOP, tempers).all_items, (("w", 1),))
        assert_raises(self, BadWorld, tempers, World, one_group(), tempers)

    def test_things_ascend(self):
        shop = Shop((("m", ("a", "z")),))
        world = World(shop, (temper(("a", 2)), temper(("a", 3)), temper(("m", 0)), temper(("z", 1))))
        self.assertEqual(world.things, (("a", 2), ("a", 3), ("m", 0), ("z", 1)))
        self.assertEqual(world.all_items, (("a", 2), ("a", 3), ("z", 1)))


class EqualityTest(unittest.TestCase):
    def test_equal(self):
        self.assertTrue(a_world() == a_world())
        self.assertFalse(a_world() != a_world())
        self.assertTrue(World(SHOP, ()) == World(two_groups(), ()))

    def test_unlike(self):
        worlds = [World(SHOP, tempers) for tempers in GOOD.values()] + [World(one_group(), ()), a_world()]
        for place, one in enumerate(worlds):
            for number, other in enumerate(worlds):
                self.assertIs(one == other, place == number)
                self.assertIs(one != other, place != number)

    def test_nothing_else(self):
        world = World(SHOP, ())
        for value in any_values() + [SHOP, (), (SHOP, ()), world.tempers]:
            self.assertFalse(world == value)
            self.assertFalse(value == world)
            self.assertTrue(world != value)


class AgreesTest(unittest.TestCase):
    def check(self, tempers, log, told, filling=()):
        self.assertIs(World(SHOP, tempers).agrees(log, filling), told)
        self.assertIs(World(SHOP, tempers).agrees(log=log, filling=filling), told)

    def test_first(self):
        log = (run("p", A, "pass"),)
        self.check((temper(A), temper(G)), log, True)
        self.check((temper(A, first="fail"), temper(G)), log, False)
        self.check((temper(A), temper(G, first="fail")), log, False)
        self.check((temper(A, first="fail"), temper(G)), (run("p", A, "fail"),), True)
        self.check((temper(A), temper(G)), (run("p", A, "skip"),), False)
        self.check((temper(A), temper(G, first="fail")), (run("p", A, "skip"),), True)

    def test_last_letter_that_is_not_idle(self):
        kinds = ((("pass", A), "spoils"), (("pass", B), "mends"))
        tempers = (temper(A), temper(B, kinds=kinds), temper(G), temper(H))
        a, b = run("p", A, "pass"), run("p", B, "pass")
        self.check(tempers, (a, run("p", B, "fail")), True)
        self.check(tempers, (a, b), False)
        self.check(tempers, (b, a, run("p", B, "fail")), True)
        self.check(tempers, (b, a, run("p", B, "fail"), run("p", B, "fail")), True)
        self.check(tempers, (a, run("p", B, "fail"), run("p", B, "pass")), False)
        self.check(tempers, (a, ("gap", "p"), run("p", B, "fail")), True)

    def test_mends(self):
        kinds = ((("pass", A), "mends"),)
        tempers = (temper(A), temper(B, first="fail", kinds=kinds), temper(G))
        self.check(tempers, (run("p", B, "fail"), run("p", A, "pass"), run("p", B, "pass")), True)
        self.check(tempers, (run("p", B, "fail"), run("p", A, "pass"), run("p", B, "fail")), False)

    def test_near_and_far(self):
        for where in ("near", "far"):
            tempers = (temper(A), temper(B, where, kinds=((("pass", A), "spoils"),)), temper(G))
            ahead = (run("p", A, "pass"),)
            far = "fail" if where == "far" else "pass"
            near = "fail" if where == "near" else "pass"
            for other in ("pass", "fail"):
                self.check(tempers, ahead + (run("q", B, other),), other == far)
                self.check(tempers, ahead + (("fresh", "p"), run("p", B, other)), other == far)
                self.check(tempers, ahead + (("clear",), run("p", B, other)), other == near)
                self.check(tempers, ahead + (run("p", B, other),), other == "fail")
                self.check(tempers, ahead + (("fresh", "p"), ("clear",), run("p", B, other)), other == "pass")

    def test_letter_of_its_own_event(self):
        tempers = (temper(A, kinds=((OPEN_G, "spoils"),)), temper(G))
        self.check(tempers, (run("p", A, "fail"),), True)
        self.check(tempers, (run("p", A, "pass"),), False)

    def test_cuts_and_gaps(self):
        kinds = ((("cut", 1), "spoils"), (("gap", 2), "mends"))
        tempers = (temper(A, kinds=kinds), temper(G))
        start = (("clear",), run("p", A, "cut"))
        self.check(tempers, start + (run("p", A, "fail"),), True)
        self.check(tempers, start + (run("p", A, "pass"),), False)
        self.check(tempers, start + (("gap", "p"), run("p", A, "pass")), True)
        self.check(tempers, start[1:] + (("gap", "p"), run("p", A, "pass")), True)
        self.check(tempers, (("gap", "p"), run("p", A, "cut"), run("p", A, "fail")), True)

    def test_things_that_are_not_there(self):
        self.check((), (run("p", A, "pass"),), False)
        self.check((temper(G),), (run("p", A, "pass"),), False)
        self.check((temper(G),), (run("p", A, "cut"), run("q", B, "cut")), True)
        self.check((temper(G, first="fail"),), (run("p", A, "skip"),), True)
        self.check((), (("gap", "p"), ("clear",), ("fresh", "p")), True)
        self.check((temper(A), temper(G)), (run("p", ("a", 2), "pass"),), False)
        self.check((temper(A), temper(G), temper(H)), (), True)

    def test_fillings(self):
        tempers = (temper(A), temper(G))
        log = (run("p", A, None),)
        for outcome in ("fail", "pass", "skip"):
            self.check(tempers, log, outcome == "pass", (outcome,))

    def test_errors(self):
        world = World(SHOP, (temper(A), temper(G)))
        log = (run("p", A, None), run("p", B, None))
        too_many = log * 2
        too_long = log + log[:1] * 30
        for value in any_values() + [("pass", "skip"), ("pass",), ["pass", "pass"], ("pass", "cut")]:
            assert_raises(self, BadFilling, value, world.agrees, log, value)
            assert_raises(self, BadFilling, value, world.agrees, log=log, filling=value)
            if value != ():
                assert_raises(self, BadLog, value, world.agrees, value, ())
            assert_raises(self, BadLog, too_many, world.agrees, too_many, value)
            assert_raises(self, BadLog, too_long, world.agrees, log=too_long, filling=value)

    def test_as_told(self):
        chance = random.Random(3)
        told = []
        for _ in range(3000):
            world = random_world(chance, SHOP)
            log = random_events(chance, SHOP, chance.randrange(0, 4))
            if is_log(SHOP, log):
                for filling in fillings(SHOP, log):
                    told.append(plain_agrees(world, log, filling))
                    self.assertIs(world.agrees(log, filling), told[-1])
        self.assertGreater(told.count(True), 100)
        self.assertGreater(told.count(False), 100)


def plain_agrees(world, log, filling):
    tempers = {row[0]: row for row in world.tempers}
    things = [(check, edition) for check in SHOP.checks for edition in range(1, 10)] + [G, H]
    for thing in things:
        for _, outcome, near, far in plain_samples(SHOP, log, filling, thing):
            if thing not in tempers:
                return False
            _, where, first, kinds = tempers[thing]
            row = [letter for letter in (near if where == "near" else far) if letter in dict(kinds)]
            kind = dict(kinds)[row[-1]] if row else {"pass": "mends", "fail": "spoils"}[first]
            if (outcome, kind) not in (("pass", "mends"), ("fail", "spoils")):
                return False
    return True


if __name__ == "__main__":
    unittest.main()

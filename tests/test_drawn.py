"""Point 10: drawn, drawn_under, shows_drawn, shows_drawn_under; point 3 (c)."""

import random
import unittest

from spoilorder.drawing import drawn, drawn_under, shows_drawn, shows_drawn_under
from spoilorder.errors import BadHeld, BadMany, NoThing, TooMany
from spoilorder.glasses import Glass
from spoilorder.machines import alike
from spoilorder.shops import Shop
from spoilorder.striking import filled
from spoilorder.worlds import World
from tests.common import (
    A, B, FOUR_HUNDRED, G, H, ONE_MORE, V, a_glass, a_world, any_values, assert_raises, deep, one_group, some_otherwise,
    two_groups)
from tests.plain import random_glass, random_world
from tests.plain_drawing import (
    all_moves, are_row_clashes, as_log, do, is_drawn, is_drawn_under, is_row_clash, sample_of, suits)
from tests.plain_striking import FREE
from tests.test_under import BAD_HELD

ROWS = ["cell c ok bad", "cell d ok bad", "group g", "  check a 1", "    set c bad", "  check b 1", "    set d bad",
        "  check m 1", "    set c ok", "  check v 1", "    want c ok", "    want d ok"]
TWO_CELLS = Glass("\n".join(ROWS))
ONE_CELL = Glass("\n".join(ROWS[:-1]))
M = ("m", 1)


def run(*items):
    return tuple(("run", 0, item) for item in items)


def same_in_all_moves(machine, world, many):
    """Whether they come out alike in all rows of moves, by their pairs of states."""
    begin = (machine.start(many), world.start(many))
    seen, fresh = {begin}, [begin]
    while fresh:
        behind = []
        for left, right in fresh:
            for move in all_moves(machine, many):
                (outcome, after), (told, beside) = do(machine, left, move), do(world, right, move)
                if outcome != told:
                    return False
                if (after, beside) not in seen:
                    seen.add((after, beside))
                    behind.append((after, beside))
        fresh = behind
    return True


def machines_of(chance, many):
    return [random_world(chance, two_groups()) if k % 3 == 0 else random_glass(chance, 4) for k in range(many)]


def random_held(chance, machine):
    where = chance.choice(("near", "far", None))
    first = chance.choice(("pass", "fail", None, None))
    letters = [(word, thing) for word in ("pass", "fail") for thing in machine.things]
    letters += [("close", machine.shop.groups[0][0]), ("gap", 3), ("cut", 29)]
    some = sorted(chance.sample(letters, chance.randrange(3)))
    return where, first, tuple((letter, chance.choice(("idle", "mends", "spoils"))) for letter in some)


class DrawnTest(unittest.TestCase):
    def test_document(self):
        found = drawn(TWO_CELLS, 1)
        self.assertEqual([found[:2], shows_drawn(TWO_CELLS, 1, found), drawn(ONE_CELL, 1)[0]],
                         [("none", V), True, "world"])

    def test_document_by_hand(self):
        # m, a and the opening are struck, then v passes and fails behind nothing at all.
        near = ("near", (
            (("pass", M), run(A, M, V), run(A, B, M, V)), (("pass", A), run(A, M, V), run(A, V)),
            (("pass", G), run(V), run(A, V))), (run(V), run(A, V)))
        far = ("far",) + near[1:]
        self.assertTrue(shows_drawn(TWO_CELLS, 1, ("none", V, (near, far))))
        self.assertFalse(shows_drawn(ONE_CELL, 1, ("none", V, (near, far))))
        without = (near[0], near[1][1:], near[2])
        self.assertFalse(shows_drawn(TWO_CELLS, 1, ("none", V, (without, far))))

    def test_worlds(self):
        chance = random.Random(61)
        for _ in range(60):
            world = random_world(chance, two_groups())
            for many in (1, 2):
                try:
                    found = drawn(machine=world, many=many)
                except TooMany:
                    continue
                self.assertEqual(found[0], "world")
                self.assertEqual((found[1].shop, found[1].things), (world.shop, world.things))
                self.assertTrue(same_in_all_moves(world, found[1], many))
                self.assertTrue(shows_drawn(world, many, found))
                # The machine itself is such a world, with whatever kinds of cuts and gaps.
                self.assertTrue(shows_drawn(machine=world, many=many, value=("world", world)))

    def test_glasses(self):
        chance = random.Random(62)
        seen = []
        for _ in range(160):
            glass, many = random_glass(chance, 4), chance.choice((1, 2))
            try:
                found = drawn(glass, many)
            except TooMany:
                seen.append("many")
                continue
            if found[0] == "world":
                self.assertEqual((found[1].shop, found[1].things), (glass.shop, glass.things))
                self.assertTrue(same_in_all_moves(glass, found[1], many))
            self.assertTrue(is_drawn(glass, many, found))
            self.assertTrue(shows_drawn(glass, many, found))
            seen.append((found[0], many))
        for kind in [(word, many) for word in ("world", "none") for many in (1, 2)]:
            self.assertGreater(seen.count(kind), 5)

    def test_logs_of_runs_are_explained(self):
        # What a machine writes down has a world if the machine has one; else the clash of its rows is one of a log.
        chance = random.Random(63)
        for glass in machines_of(chance, 40):
            try:
                found = drawn(glass, 1)
            except TooMany:
                continue
            moves = tuple(chance.choice(all_moves(glass, 1)) for _ in range(20))
            log = as_log(glass, 1, moves)
            if found[0] == "world":
                self.assertTrue(found[1].agrees(log, ()))
                self.assertEqual(filled(glass.shop, log)[0][1][0], "world")
        parts = [row + (("fresh", 0), ("clear",)) for row in (run(A, M, V), run(A, B, M, V), run(A, V), run(V))]
        log = as_log(TWO_CELLS, 1, sum(parts, ()))
        self.assertEqual(filled(TWO_CELLS.shop, log)[0][1][:2], ("clash", V))

    def test_two_workers(self):
        # Alone it is a near mark or a far one; with two workers only one of them is left.
        shared = Glass("shared c ok bad\ngroup g\n  check a 1\n    set c bad\n  check v 1\n    want c ok")
        own = Glass(shared.text.replace("shared", "cell"))
        for glass, where in [(shared, "far"), (own, "near")]:
            world = drawn(glass, 2)[1]
            self.assertEqual([temper[1] for temper in world.tempers if temper[0] == V], [where])
        # What lies on one worker and in the store, too, no world does.
        both = Glass("shared c ok bad\ncell d ok bad\ngroup g\n  check a 1\n    set c bad\n    set d bad\n"
                     "  check v 1\n    want c ok\n    want d ok")
        for many in (1, 2):
            found = drawn(both, many)
            self.assertEqual(found[:2], ("none", V))
            self.assertTrue(is_drawn(both, many, found))

    def test_things_without_samples(self):
        glass = Glass("group g\n  open\n    fail\n  check a 1")
        found = drawn(glass, 2)
        self.assertEqual((found[0], found[1].things), ("world", (A, G)))
        for temper in [(A, "near", "pass", ()), (A, "far", "fail", ((("cut", 3), "mends"), (("pass", A), "spoils")))]:
            self.assertTrue(shows_drawn(glass, 1, ("world", World(glass.shop, (temper, (G, "near", "fail", ()))))))
        world = World(two_groups(), ((H, "near", "pass", ()),))
        self.assertEqual((drawn(world, 1)[0], drawn(world, 1)[1].things), ("world", (H,)))
        self.assertEqual(drawn(World(two_groups(), ()), 2), ("world", World(two_groups(), ())))


class DrawnUnderTest(unittest.TestCase):
    def test_each_part(self):
        for held, word in [
                (FREE, "temper"), (("near", None, ()), "temper"), (("far", None, ()), "clash"), ((None, "pass", ()), "temper"),
                ((None, "fail", ()), "temper"), ((None, None, ((("pass", A), "spoils"),)), "temper"),
                ((None, None, ((("pass", A), "mends"),)), "clash"), ((None, None, ((("pass", A), "idle"),)), "clash"),
                ((None, None, ((("pass", B), "mends"),)), "temper"), ((None, None, ((("pass", B), "idle"),)), "clash"),
                ((None, "fail", ((("pass", G), "mends"),)), "temper"), ((None, None, ((("gap", 4), "spoils"),)), "temper")]:
            for many in (1, 2):
                found = drawn_under(machine=a_glass(), many=many, thing=V, held=held)
                if many == 2 or held[0] is not None or held == FREE:
                    self.assertEqual(found[0], word, held)
                self.assertTrue(is_drawn_under(a_glass(), many, V, held, found))
                self.assertTrue(shows_drawn_under(machine=a_glass(), many=many, thing=V, held=held, value=found))
                if found[0] == "clash":
                    self.assertEqual(len(found[1]), 2 if held[0] is None else 1)

    def test_against_plain_looks(self):
        chance = random.Random(64)
        seen = []
        for machine in machines_of(chance, 90):
            many = chance.choice((1, 2))
            try:
                drawn(machine, many)
            except TooMany:
                continue
            for thing in machine.things[:3]:
                held = random_held(chance, machine)
                found = drawn_under(machine, many, thing, held)
                self.assertTrue(is_drawn_under(machine, many, thing, held, found))
                self.assertTrue(shows_drawn_under(machine, many, thing, held, found))
                seen.append((found[0], held[0]))
        for kind in [(word, where) for word in ("temper", "clash") for where in ("near", "far", None)]:
            self.assertGreater(seen.count(kind), 8)


class ErrorsTest(unittest.TestCase):
    def calls(self, machine, many, thing, held):
        return [
            (drawn, (machine, many)), (shows_drawn, (machine, many, None)), (drawn_under, (machine, many, thing, held)),
            (shows_drawn_under, (machine, many, thing, held, None))]

    def test_bad_many(self):
        wrong = [value for value in any_values() if isinstance(value, bool) or value not in (1, 2)] + [0, 3, -1, (1,)]
        for value in wrong:
            for machine, thing, held in [(a_world(), V, FREE), (Glass(ONE_MORE), None, None)]:
                for call, args in self.calls(machine, value, thing, held):
                    assert_raises(self, BadMany, value, call, *args)

    def test_no_thing(self):
        for value in any_values() + [("a", True), ("g", False), ("a", 2), H, ["a", 1]]:
            for machine, held in [(a_world(), FREE), (a_world(), None)]:
                for call, args in self.calls(machine, 1, value, held)[2:]:
                    assert_raises(self, NoThing, value, call, *args)
            if value != H:
                for call, args in self.calls(Glass(ONE_MORE), 2, value, FREE)[2:]:
                    assert_raises(self, NoThing, value, call, *args)

    def test_bad_held(self):
        for value in any_values() + BAD_HELD:
            for call, args in self.calls(a_world(), 2, V, value)[2:]:
                assert_raises(self, BadHeld, value, call, *args)
        for value in [None, (), ("near",)]:
            for call, args in self.calls(Glass(ONE_MORE), 2, A, value)[2:]:
                assert_raises(self, BadHeld, value, call, *args)

    def test_too_many(self):
        for call, args in self.calls(Glass(ONE_MORE), 2, A, FREE):
            with self.assertRaises(TooMany) as caught:
                call(*args)
            self.assertEqual(caught.exception.number, 400)
        for call, args in self.calls(Glass(ONE_MORE), 1, A, FREE) + self.calls(Glass(FOUR_HUNDRED), 2, A, FREE):
            found = call(*args)
            self.assertTrue(found is False or found[0] in ("world", "none", "temper", "clash"))

    def test_values_of_a_machine_with_400_states(self):
        glass = Glass(FOUR_HUNDRED)
        found = drawn(glass, 2)
        self.assertTrue(is_drawn(glass, 2, found))
        self.assertTrue(shows_drawn(glass, 2, found))


class ShowsTest(unittest.TestCase):
    def test_worlds(self):
        tempers = a_world().tempers
        for world, good in [
                (a_world(), True), (World(one_group(), tempers[:-1]), False), (World(two_groups(), ()), False),
                (World(one_group(), tempers[:-1] + ((V, "near", "pass", ()),)), False),
                (World(one_group(), tempers[:-1] + ((V, "far", "pass", tempers[-1][3]),)), False),
                (World(one_group(), ((A, "near", "pass", ()), (("a", 2), "near", "pass", ())) + tempers[1:]), False)]:
            self.assertEqual(shows_drawn(a_glass(), 2, ("world", world)), good)
            self.assertEqual(is_drawn(a_glass(), 2, ("world", world)), good)
        far = World(one_group(), tempers[:-1] + ((V, "near", "fail", ((("pass", A), "spoils"), (("pass", B), "mends"),
                                                                     (("pass", G), "mends"))),))
        self.assertTrue(shows_drawn(a_glass(), 2, ("world", far)))

    def test_other_rows_for_the_same_samples(self):
        found = drawn(TWO_CELLS, 1)
        longer = run(A, B, V) + (("fresh", 0), ("clear",))

        def lengthened(clash):
            where, strikings, ends = clash
            strikings = tuple((letter, longer + one, longer + other) for letter, one, other in strikings)
            return where, strikings, tuple(longer + row for row in ends)

        value = found[:2] + (tuple(lengthened(clash) for clash in found[2]),)
        self.assertTrue(is_drawn(TWO_CELLS, 1, value))
        self.assertTrue(shows_drawn(TWO_CELLS, 1, value))

        # On the other worker, too.
        def moved(clash):
            where, strikings, ends = clash
            other = [tuple(("run", 1, move[2]) if move[0] == "run" else move for move in row) for row in ends]
            return where, strikings, (other[0],) + ends[1:]

        pair = drawn(TWO_CELLS, 2)
        value = pair[:2] + (tuple(moved(clash) for clash in pair[2]),)
        self.assertEqual(shows_drawn(TWO_CELLS, 2, value), is_drawn(TWO_CELLS, 2, value))

    def test_rows_that_are_no_samples(self):
        g = ("pass", G)
        clashes = (("near", (), (run(V), run(B, V))),)
        held = ("near", None, tuple(sorted([(g, "idle"), (("pass", B), "idle")])))
        self.assertTrue(shows_drawn_under(TWO_CELLS, 1, V, held, ("clash", clashes)))
        good = run(B, V)
        for row in [(), run(B), run(V, B), good + (("clear",),), good + (("fresh", 0),), list(good), (("run", 1, B),) + run(V),
                    (("run", False, B), ("run", 0, V)), run(B, ("v", True)), run(B, ("v", 2)), (["run", 0, B],) + run(V),
                    run(A, M, V), None, "row", (("gap", 0),) + good, ((),) + good, (("clear", 0),) + good, 1, run(B) + (V,)]:
            value = ("clash", (("near", (), (run(V), row)),))
            self.assertFalse(shows_drawn_under(TWO_CELLS, 1, V, held, value), row)
            self.assertFalse(is_drawn_under(TWO_CELLS, 1, V, held, value), row)
        for row in [run(B, B, V), run(A, B) + (("fresh", 0),) + run(B, V), run(V, V) + (("fresh", 0),) + good]:
            value = ("clash", (("near", (), (run(V), row)),))
            self.assertTrue(shows_drawn_under(TWO_CELLS, 1, V, held, value), row)

    def test_words_things_and_lengths(self):
        found = drawn(TWO_CELLS, 1)
        for value in [("never",) + found[1:], ("world",) + found[1:], found + ((),), found + ((), ()), found[:2],
                      ("none", ("v", True), found[2]), ("none", ["v", 1], found[2]), ("none", None, found[2]), ("none", [], found[2]),
                      ("none", {}, found[2]), ("none", A, found[2]), ("none", ("x", 1), found[2]), ("none", ("v", 1), found[2], ())]:
            self.assertFalse(shows_drawn(TWO_CELLS, 1, value), value)
        world = drawn(a_glass(), 1)
        for value in [world + ((),), world[:1], ("none",) + world[1:], ("temper",) + world[1:]]:
            self.assertFalse(shows_drawn(a_glass(), 1, value))
        bigger = Shop((("g", ("a", "b", "v")), ("h", ("w",))))
        self.assertTrue(shows_drawn(a_glass(), 1, ("world", World(one_group(), a_world().tempers))))
        self.assertFalse(shows_drawn(a_glass(), 1, ("world", World(bigger, a_world().tempers))))
        under_near = drawn_under(a_glass(), 1, V, ("near", None, ()))
        for value in [under_near + ((),), under_near[:1], ("clash",) + under_near[1:], ("world",) + under_near[1:]]:
            self.assertFalse(shows_drawn_under(a_glass(), 1, V, ("near", None, ()), value))

    def test_one_thing_otherwise(self):
        chance = random.Random(65)
        kept = many_shown = 0
        for machine in machines_of(chance, 40) + [TWO_CELLS, a_glass()]:
            many = chance.choice((1, 2))
            try:
                found = drawn(machine, many)
            except TooMany:
                continue
            thing = chance.choice(machine.things) if machine.things else None
            held = random_held(chance, machine)
            for other in some_otherwise(chance, found, 40):
                right = is_drawn(machine, many, other)
                self.assertEqual(shows_drawn(machine, many, other), right, other)
                kept += right
                many_shown += 1
            if thing:
                for other in some_otherwise(chance, drawn_under(machine, many, thing, held), 40):
                    right = is_drawn_under(machine, many, thing, held, other)
                    self.assertEqual(shows_drawn_under(machine, many, thing, held, other), right, other)
                    kept += right
                    many_shown += 1
        self.assertGreater(kept, 50)
        self.assertGreater(many_shown - kept, 500)

    def test_values_of_any_kind(self):
        for value in any_values() + [deep(lambda part: (part, part), 5)]:
            for told in [value, (value,), ("world", value), ("none", value), ("none", V, value), ("none", value, value),
                         ("none", V, (value, value)), ("none", V, (("near", value, (run(V), run(A, V))),) * 2),
                         ("none", V, (("near", (), value), ("far", (), value))),
                         ("none", V, (("near", (), (value, value)), ("far", (), (value, value)))),
                         ("none", V, (("near", ((value, run(V), run(A, V)),), (run(V), run(A, V))),) * 2),
                         ("none", V, (("near", ((("pass", G), value, run(A, V)),), (run(V), run(A, V))),) * 2)]:
                self.assertIs(shows_drawn(TWO_CELLS, 1, told), False)
            for told in [value, ("temper", value), ("clash", value), ("clash", (value,)), ("clash", (("far", value, value),)),
                         ("clash", (("far", (), (value,)),)), ("temper", (V, value, "pass", ())), ("temper", (value, "far", "pass", ()))]:
                self.assertIs(shows_drawn_under(a_glass(), 2, V, ("far", None, ()), told), False)

    def test_plain_looks_see_the_same(self):
        self.assertTrue(suits(a_glass(), 2, a_world().tempers[-1]))
        self.assertFalse(suits(a_glass(), 2, (V, "far") + a_world().tempers[-1][2:]))
        self.assertEqual(sample_of(a_glass(), 1, V, run(A, V))[0], "fail")
        clash = ("near", ((("pass", G), run(V), run(A, V)),), (run(V), run(A, V)))
        held = ("near", None, ((("pass", A), "idle"),))
        self.assertTrue(is_row_clash(a_glass(), 1, V, "near", held, clash))
        self.assertTrue(are_row_clashes(a_glass(), 1, V, held, (clash,)))
        self.assertTrue(shows_drawn_under(a_glass(), 1, V, held, ("clash", (clash,))))
        self.assertEqual(alike(a_glass(), drawn(a_glass(), 2)[1], 2)[0], "alike")


if __name__ == "__main__":
    unittest.main()

"""Point 9: under, kinds, wheres, shows_under."""

import itertools
import random
import unittest

from spoilorder.errors import BadHeld, BadLog, NoLetter, NoThing, NoWorld
from spoilorder.looks import shows_under
from spoilorder.striking import kinds, under, wheres
from tests.common import A, B, G, H, V, any_values, assert_raises, one_group, some_otherwise, two_groups
from tests.plain import plain_fillings, plain_samples
from tests.plain_striking import FREE, are_clashes, has_temper, is_under, plain_possible
from tests.test_filled import LOG, NO_WORLD, clashing_logs, small_logs

SHOP = one_group()
IDLE = ("far", None, ((("pass", A), "idle"),))
IDLE_ANSWER = ("clash", (((), V, (("far", ((("pass", G), 5, 1),), (5, 1)),)),))
BAD_HELD = [
    (), ("far",), ("far", None), ("far", None, (), ()), ["far", None, ()], ("here", None, ()), ("far", "skip", ()),
    ("far", True, ()), (False, None, ()), (None, None, None), (None, None, []), (None, None, ((("pass", A),),)),
    (None, None, ((("pass", A), "idles"),)), (None, None, ((("pass", A), None),)), (None, None, ((("pass", ["a", 1]), "idle"),)),
    (None, None, ((("pass", A), "idle"), (("pass", A), "mends"))), (None, None, ((("pass", B), "idle"), (("pass", A), "idle"))),
    (None, None, ((("pass", A), "idle"), (("pass", A), "idle"))), (None, None, ((("pass", ("w", 1)), "idle"),)),
    (None, None, ((("cut", 30), "idle"),)), (None, None, ((("cut", True), "idle"),)), (None, None, (("pass", A), "idle")),
    (None, None, [(("pass", A), "idle")]), (None, None, ([("pass", A), "idle"],)), (None, ["pass"], ()), (["near"], None, ()),
    (None, {}, ()), (None, None, {("pass", A): "idle"}), (None, None, ((("close", "h"), "idle"),))]


def letters_of(log, thing):
    rows = [row for filling in plain_fillings(SHOP, log) for row in plain_samples(SHOP, log, filling, thing)]
    return sorted({letter for row in rows for part in row[2:] for letter in part} | {("pass", ("a", 9)), ("gap", 29)})


def random_held(chance, log, thing):
    where = chance.choice(("near", "far", None))
    first = chance.choice(("pass", "fail", None, None))
    letters = letters_of(log, thing)
    some = sorted(chance.sample(letters, min(len(letters), chance.randrange(3))))
    return where, first, tuple((letter, chance.choice(("idle", "mends", "spoils"))) for letter in some)


class UnderTest(unittest.TestCase):
    def test_document(self):
        self.assertEqual(wheres(SHOP, LOG, V), ("far",))
        self.assertEqual(kinds(SHOP, LOG, V, ("pass", A)), ("spoils",))
        self.assertEqual(under(SHOP, LOG, V, IDLE), IDLE_ANSWER)

    def test_each_part_alone(self):
        found = {}
        parts = {"near": ("near", None, ()), "far": ("far", None, ()), "pass": (None, "pass", ()), "fail": (None, "fail", ())}
        for kind in ("idle", "mends", "spoils"):
            parts[kind] = (None, None, ((("pass", A), kind),))
        for name, held in parts.items():
            found[name] = under(SHOP, LOG, V, held)[0]
            self.assertTrue(shows_under(SHOP, LOG, V, held, under(SHOP, LOG, V, held)))
        self.assertEqual(found, {
            "near": "clash", "far": "temper", "pass": "temper", "fail": "clash", "idle": "clash", "mends": "clash",
            "spoils": "temper"})

    def test_ends(self):
        # One sample: first held contrary to its outcome, all letters struck; or its last letter held contrary.
        log = (("run", "p", V, "pass"),)
        g = ("pass", G)
        self.assertEqual(under(SHOP, log, G, (None, "fail", ())), (
            "clash", (((), G, (("near", (), (0,)), ("far", (), (0,)))),)))
        self.assertEqual(under(SHOP, log, V, ("near", None, ((g, "spoils"),))), (
            "clash", (((), V, (("near", (), (0,)),)),)))
        self.assertEqual(under(SHOP, log, V, ("near", "fail", ((g, "idle"),))), (
            "clash", (((), V, (("near", (), (0,)),)),)))
        # Two: only if first is not held.
        log = NO_WORLD[:3] + (("run", "p", A, "pass"), ("run", "p", V, "fail"))
        idle = ((("pass", A), "idle"),)
        self.assertEqual(under(SHOP, log, V, ("near", None, idle)), (
            "clash", (((), V, (("near", ((g, 0, 4),), (0, 4)),)),)))
        for first, end in [("pass", 4), ("fail", 0)]:
            self.assertEqual(under(SHOP, log, V, ("near", first, idle)), (
                "clash", (((), V, (("near", ((g, 0, 4),), (end,)),)),)))

    def test_without_samples(self):
        for thing in [A, ("a", 9), B]:
            log = (("run", "p", V, "pass"),)
            for held in [FREE, ("near", "fail", ()), ("far", "pass", ((("cut", 29), "mends"), (("gap", 3), "idle"))),
                         (None, None, ((("pass", thing), "spoils"),))]:
                found = under(SHOP, log, thing, held)
                self.assertEqual(found[:2], ("temper", ()))
                self.assertTrue(is_under(SHOP, log, thing, held, found))
            self.assertEqual(kinds(SHOP, log, thing, ("pass", V)), ("idle", "mends", "spoils"))
            self.assertEqual(wheres(SHOP, log, thing), ("far", "near"))
        self.assertEqual(kinds(two_groups(), (), H, ("close", "g")), ("idle", "mends", "spoils"))

    def test_impossible_fillings(self):
        # If a fails or is skipped at the end, the log has no world.
        log = (("run", "p", A, "pass"), ("clear",), ("fresh", "p"), ("run", "p", V, "pass"), ("clear",), ("fresh", "p"),
               ("run", "p", A, None))
        found = under(SHOP, log, V, (None, "fail", ((("pass", G), "idle"),)))
        self.assertEqual(found[0], "clash")
        self.assertEqual([row[0] for row in found[1]], [("fail",), ("pass",), ("skip",)])
        self.assertEqual([row[1] for row in found[1]], [V, V, V])
        self.assertTrue(shows_under(SHOP, log, V, (None, "fail", ((("pass", G), "idle"),)), found))
        # For impossible ones the clashes of other things do, too, without held.
        other = found[1][0][:1] + (A, (("near", ((("pass", G), 0, 6),), (0, 6)), ("far", ((("pass", G), 0, 6),), (0, 6))))
        self.assertTrue(shows_under(SHOP, log, V, (None, "fail", ((("pass", G), "idle"),)), ("clash", (other,) + found[1][1:])))
        self.assertFalse(shows_under(
            SHOP, log, V, (None, "fail", ((("pass", G), "idle"),)), ("clash", (found[1][0], ("pass",) + other[1:], found[1][2]))))

    def test_clash_of_another_thing(self):
        log = (("run", "p", A, "pass"), ("clear",), ("fresh", "p"), ("run", "p", A, None), ("run", "q", V, "fail"))
        held = ("far", None, ((("pass", A), "mends"), (("pass", G), "idle")))
        found = under(SHOP, log, V, held)
        # v has a temper as held unless a passed; but then a, or the opening, has none.
        self.assertEqual([row[:2] for row in found[1]], [(("fail",), A), (("pass",), V), (("skip",), G)])
        self.assertEqual([len(row[2]) for row in found[1]], [2, 1, 2])
        self.assertTrue(is_under(SHOP, log, V, held, found))
        self.assertTrue(shows_under(SHOP, log, V, held, found))

    def test_against_all_tempers(self):
        chance = random.Random(51)
        seen = []
        logs = small_logs(chance, 60, SHOP, longest=6, untold=1) + clashing_logs(chance, 120, SHOP, untold=1)
        for log in logs:
            right = plain_possible(SHOP, log)
            if not right:
                continue
            for thing in (A, V, G):
                held = random_held(chance, log, thing)
                can = [f for f in right if has_temper(thing, plain_samples(SHOP, log, f, thing), held)]
                found = under(shop=SHOP, log=log, thing=thing, held=held)
                self.assertEqual(found[0], "temper" if can else "clash")
                if can:
                    self.assertIn(found[1], can)
                self.assertTrue(is_under(SHOP, log, thing, held, found))
                self.assertTrue(shows_under(shop=SHOP, log=log, thing=thing, held=held, value=found))
                seen.append((found[0], held[0], held[1] is None))
        for answer, where in itertools.product(("temper", "clash"), ("near", "far", None)):
            self.assertGreater(len([row for row in seen if row[:2] == (answer, where)]), 10)

    def test_kinds_and_wheres_against_all_tempers(self):
        chance = random.Random(52)
        seen = []
        for log in small_logs(chance, 30, SHOP, longest=6, untold=1) + clashing_logs(chance, 80, SHOP, untold=1):
            right = plain_possible(SHOP, log)
            if not right:
                continue
            for thing in (A, V, G):
                held = [("far", None, ()), ("near", None, ())]
                self.assertEqual(wheres(shop=SHOP, log=log, thing=thing), self.can(log, right, thing, held, ("far", "near")))
                letter = chance.choice(letters_of(log, thing))
                words = ("idle", "mends", "spoils")
                held = [(None, None, ((letter, kind),)) for kind in words]
                found = kinds(shop=SHOP, log=log, thing=thing, letter=letter)
                self.assertEqual(found, self.can(log, right, thing, held, words))
                seen.append(found)
        self.assertGreater(len(set(seen)), 5)

    def can(self, log, right, thing, held, words):
        return tuple(word for word, one in zip(words, held) if any(
            has_temper(thing, plain_samples(SHOP, log, filling, thing), one) for filling in right))


class ErrorsTest(unittest.TestCase):
    def calls(self, log, thing, held, letter):
        """The functions with these arguments, and what belongs to the last one of each."""
        return [
            (under, (SHOP, log, thing, held), BadHeld, held),
            (shows_under, (SHOP, log, thing, held, IDLE_ANSWER), BadHeld, held),
            (kinds, (SHOP, log, thing, letter), NoLetter, letter),
            (wheres, (SHOP, log, thing), None, None),
        ]

    def test_bad_log_first(self):
        for value in [value for value in any_values() if value != ()]:
            for thing, held, letter in [(V, FREE, ("pass", A)), (None, None, None)]:
                for call, args, _, _ in self.calls(value, thing, held, letter):
                    assert_raises(self, BadLog, value, call, *args)

    def test_no_world_second(self):
        for log in [NO_WORLD, NO_WORLD + (("run", "p", V, None),)]:
            for thing, held, letter in [(V, FREE, ("pass", A)), ([], {}, "x"), (A, FREE, None), (None, FREE, ("pass", A))]:
                for call, args, _, _ in self.calls(log, thing, held, letter):
                    assert_raises(self, NoWorld, log, call, *args)

    def test_no_thing_third(self):
        for value in any_values() + [("a", True), ("a", 0), ("a", 10), ("g", False), ("w", 1), ("h", 0), ["a", 1], ("pass", A)]:
            for held, letter in [(FREE, ("pass", A)), (None, None), ([], [])]:
                for call, args, _, _ in self.calls(LOG, value, held, letter):
                    assert_raises(self, NoThing, value, call, *args)

    def test_bad_held_and_no_letter_last(self):
        for value in any_values() + BAD_HELD:
            for call, args, error, told in self.calls(LOG, V, value, value)[:2]:
                assert_raises(self, error, told, call, *args)
        for part in any_values():
            for held in [(part, None, ()), (None, part, ()), (None, None, part), (None, None, (part,)),
                         (None, None, ((part, "idle"),)), (None, None, ((("pass", A), part),))]:
                if part is not None and (part != () or held == (None, None, (part,))) and held[:2] != (None, "pass"):
                    assert_raises(self, BadHeld, held, under, SHOP, LOG, V, held)
                    assert_raises(self, BadHeld, held, shows_under, SHOP, LOG, V, held, None)
        wrong = [("pass", ("a", 0)), ("cut", 30), ("cut", True), ("gap", -1), ("close", "h"), ("pass", ("w", 1)), ["pass", A], A]
        for value in any_values() + wrong:
            assert_raises(self, NoLetter, value, kinds, SHOP, LOG, V, value)
            assert_raises(self, NoLetter, value, kinds, shop=SHOP, log=LOG, thing=V, letter=value)


class ShowsUnderTest(unittest.TestCase):
    def test_any_temper(self):
        right = (V, "far", "pass", ((("close", "g"), "mends"), (("cut", 7), "spoils"), (("pass", A), "spoils")))
        for temper, good in [
                (right, True), ((V, "near") + right[2:], False), ((V, "far", "fail") + right[3:], False),
                ((V, "far", "fail", ((("pass", A), "spoils"), (("pass", G), "mends"))), False),
                ((V, "far", "fail", ((("fail", V), "mends"), (("pass", A), "spoils"))), False),
                ((A,) + right[1:], False), (right[:3] + (right[3][:2],), False), (list(right), False), (right[:3], False),
                ((("v", True),) + right[1:], False), (right[:3] + (right[3][::-1],), False), (None, False),
                (right[:3] + (right[3] + ((("pass", ("w", 1)), "mends"),),), False),
                (right[:3] + (right[3] + ((("pass", V), "idle"),),), False)]:
            self.assertEqual(shows_under(SHOP, LOG, V, FREE, ("temper", (), temper)), good, temper)
            self.assertEqual(is_under(SHOP, LOG, V, FREE, ("temper", (), temper)), good, temper)
        self.assertTrue(shows_under(SHOP, LOG, V, ("far", "pass", ((("cut", 7), "spoils"),)), ("temper", (), right)))
        for held in [("near", None, ()), (None, "fail", ()), (None, None, ((("cut", 7), "mends"),)),
                     (None, None, ((("cut", 7), "idle"),)), (None, None, ((("cut", 8), "spoils"),)),
                     (None, None, ((("pass", A), "idle"),))]:
            self.assertFalse(shows_under(SHOP, LOG, V, held, ("temper", (), right)))

    def test_filling_is_possible(self):
        log = (("run", "p", A, "pass"), ("clear",), ("fresh", "p"), ("run", "p", A, None))
        temper = (V, "near", "pass", ())
        for filling, good in [(("pass",), True), (("fail",), False), (("skip",), False), ((), False), (("cut",), False),
                              (["pass"], False), ("pass", False), (None, False), (("pass", "pass"), False)]:
            self.assertEqual(shows_under(SHOP, log, V, FREE, ("temper", filling, temper)), good)

    def test_any_rows(self):
        g, a = ("pass", G), ("pass", A)
        for held, clashes, good in [
                (IDLE, (("far", ((g, 5, 1),), (5, 1)),), True),
                (IDLE, (("far", (), (5, 1)),), False),
                (IDLE, (("near", ((g, 5, 1),), (5, 1)),), False),
                (IDLE, (("near", ((g, 5, 1),), (5, 1)), ("far", ((g, 5, 1),), (5, 1))), False),
                ((None,) + IDLE[1:], (("near", ((g, 5, 1),), (5, 1)), ("far", ((g, 5, 1),), (5, 1))), True),
                ((None,) + IDLE[1:], (("far", ((g, 5, 1),), (5, 1)), ("near", ((g, 5, 1),), (5, 1))), False),
                ((None,) + IDLE[1:], (("far", ((g, 5, 1),), (5, 1)),), False),
                (("far", "fail", IDLE[2]), (("far", ((g, 5, 1),), (5,)),), True),
                (("far", "fail", IDLE[2]), (("far", ((g, 5, 1),), (1,)),), False),
                (("far", "fail", IDLE[2]), (("far", ((g, 5, 1),), (5, 1)),), False),
                (("far", None, ((a, "mends"), (g, "idle"))), (("far", (), (1,)),), True),
                (("far", None, ((a, "mends"),)), (("far", ((g, 5, 1),), (1,)),), True),
                (("far", None, ((a, "mends"),)), (("far", (), (1,)),), False),
                (("far", None, ((a, "mends"),)), (("far", ((g, 5, 1), (a, 5, 1)), (5, 1)),), False),
                (("far", None, ((g, "mends"),)), (("far", (), (1,)),), True),
                (("far", None, ((g, "spoils"),)), (("far", (), (5,)),), True),
                (("far", None, ((g, "spoils"),)), (("far", (), (1,)),), False)]:
            value = ("clash", (((), V, clashes),))
            self.assertEqual(are_clashes(SHOP, LOG, (), V, held, clashes), good, (held, clashes))
            self.assertEqual(shows_under(SHOP, LOG, V, held, value), good, (held, clashes))

    def test_held_letters_are_not_struck(self):
        # v passes behind a; behind b, a it fails: b or the opening decides, or first would have to be both.
        log = (("run", "p", A, "pass"), ("run", "p", V, "pass"), ("clear",), ("fresh", "p"),
               ("run", "p", B, "pass"), ("run", "p", A, "pass"), ("run", "p", V, "fail"))
        a, b, g = ("pass", A), ("pass", B), ("pass", G)
        held = ("near", None, ((a, "mends"), (b, "idle"), (g, "idle")))
        self.assertTrue(shows_under(SHOP, log, V, held, ("clash", (((), V, (("near", (), (6,)),)),))))
        for strikings, ends in [(((a, 1, 6),), (1, 6)), (((a, 1, 6),), (6,)), ((), (1, 6)), ((), (1,)), (((b, 1, 6),), (6,))]:
            self.assertFalse(shows_under(SHOP, log, V, held, ("clash", (((), V, (("near", strikings, ends),)),))))
        idle = ("near", None, ((b, "idle"), (g, "idle")))
        self.assertTrue(shows_under(SHOP, log, V, idle, ("clash", (((), V, (("near", ((a, 1, 6),), (1, 6)),)),))))

    def test_lengths(self):
        for value in [IDLE_ANSWER, under(SHOP, LOG, V, FREE)]:
            held = IDLE if value == IDLE_ANSWER else FREE
            self.assertTrue(shows_under(SHOP, LOG, V, held, value))
            for other in [value + ((),), value + ((), ()), value[:-1], value + (None,) * 3]:
                self.assertFalse(shows_under(SHOP, LOG, V, held, other))

    def test_one_thing_otherwise(self):
        chance = random.Random(53)
        kept = many = 0
        for log in clashing_logs(chance, 60, SHOP, untold=1):
            if not plain_possible(SHOP, log):
                continue
            for thing in (A, V):
                held = random_held(chance, log, thing)
                found = under(SHOP, log, thing, held)
                for other in some_otherwise(chance, found, 60):
                    right = is_under(SHOP, log, thing, held, other)
                    self.assertEqual(shows_under(SHOP, log, thing, held, other), right, other)
                    kept += right
                    many += 1
        self.assertGreater(kept, 50)
        self.assertGreater(many - kept, 1000)

    def test_values_of_any_kind(self):
        for value in any_values():
            for told in [value, (value,), ("temper", value), ("temper", (), value), ("temper", value, value), ("clash", value),
                         ("clash", (value,)), ("clash", ((value, V, ()),)), ("clash", (((), value, ()),)),
                         ("clash", (((), V, value),)), ("clash", (((), V, (value,)),)),
                         ("clash", (((), V, (("far", value, (5, 1)),)),)), ("clash", (((), V, (("far", (), value),)),)),
                         ("clash", (((), V, ((value, ((("pass", G), 5, 1),), (5, 1)),)),)), ("temper", (), (V, value, "pass", ())),
                         ("temper", (), (V, "far", value, ())), ("temper", (), (V, "far", "pass", (value,)))]:
                self.assertIs(shows_under(SHOP, LOG, V, IDLE, told), False)


if __name__ == "__main__":
    unittest.main()

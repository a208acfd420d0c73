"""Point 14: blamed; point 3 (e)."""

import itertools
import random
import unittest

from spoilorder.blaming import blamed, shows_blamed
from spoilorder.errors import BadLog, BadMost, BadPrices, Full
from spoilorder.logs import is_log
from spoilorder.shops import Shop
from spoilorder.striking import possible
from tests.common import A, B, G, V, any_values, assert_raises, one_group
from tests.plain_blaming import (
    all_reasons, explaining, is_blamed, is_explained, is_tempered, least_price, price_of, read_samples, strikes_out)

SHOP = one_group()
SMALL = Shop((("g", ("a", "v")), ("h", ("b",))))
DEAR = 9


def run(item, outcome, worker="p"):
    return ("run", worker, item, outcome)


def turns(*rows):
    """The rows of runs, each on a fresh worker p and a clear store."""
    log = rows[0]
    for row in rows[1:]:
        log = log + (("clear",), ("fresh", "p")) + row
    return log


def a1(outcome="pass"):
    return run(A, outcome)


def v1(outcome):
    return run(V, outcome)


# What edition 2 of a leaves is another thing, or something was told wrongly: the document's own log.
EDITIONS = turns((a1(), v1("pass")), (run(("a", 2), "pass"), v1("fail")))
UNLIKE = turns((v1("pass"),), (v1("fail"),))
# Two runs of v in each turn, so that no single one was told wrongly: a was, in one of the turns in which it ran.
ANEW = (("clear",), ("fresh", "p"), ("fresh", "q"))
BOTH = (a1(), v1("fail"), run(V, "fail", "q")) + ANEW + (run(B, "pass"), a1(), v1("pass"), run(V, "pass", "q"))
BOTH = BOTH + ANEW + (run(B, "pass"), v1("fail"), run(V, "fail", "q"))


def drawn_case(chance):
    """A log of short turns of few things, prices and a most."""
    while True:
        items = chance.sample([A, ("a", 2), B, ("v", 2), ("v", 3), ("a", 5)], chance.choice((1, 1, 2))) + [V]
        many, log = chance.randrange(5, 12), ()
        while len(log) < many:
            if chance.random() < 0.8:
                log += (("clear",), ("fresh", "p"))
            for _ in range(chance.choice((1, 1, 2, 2, 3))):
                outcome = chance.choice(("pass", "fail", "pass", "fail", "pass", "fail", "skip", "cut"))
                log += (run(chance.choice(items), outcome, chance.choice("pppppq")),)
        log = log[:many]
        place = chance.randrange(many)
        if log[place][0] == "run" and chance.random() < 0.4:
            log = log[:place] + (log[place][:3] + (None,),) + log[place + 1:]
        if is_log(SMALL, log) and len(all_reasons(SMALL, log)) <= 60:
            return log, tuple(chance.choice((1, 1, 2, 3, 9)) for _ in range(4)), chance.choice((0, 1, 2, 4, 27))


class BlamedTest(unittest.TestCase):
    def check(self, log, prices, most, shop=SHOP):
        """What blamed returns, held against all tuples of reasons."""
        found = blamed(shop, log, prices, most)
        least = least_price(shop, log, prices, most)
        self.assertTrue(is_blamed(shop, log, prices, most, found, least), (log, prices, most))
        self.assertTrue(shows_blamed(shop, log, prices, most, found))
        return found

    def test_document(self):
        found = [blamed(SHOP, EDITIONS, (3, 1, 2, 3), 9)[:3], blamed(SHOP, EDITIONS, (1, 3, 3, 3), 9)[1]]
        self.assertEqual(found, [("reasons", 1, (("leaves", ("a", 2)),)), 1])

    def test_no_reasons_needed(self):
        self.assertEqual(blamed(SHOP, (), (1, 1, 1, 1), 0), ("reasons", 0, (), (), (), ()))
        log = turns((v1("pass"),), (a1(), v1("fail")))
        for most in (0, 5, 27):
            found = self.check(log, (1, 9, 9, 2), most)
            self.assertEqual((found[:4], found[5]), (("reasons", 0, (), ()), ()))
            self.assertEqual([temper[0] for temper in found[4]], [A, G, V])

    def test_editions_alike_without_reasons(self):
        log = turns((a1(), v1("fail")), (v1("pass"),), (run(("a", 2), "pass"), v1("fail")))
        found = self.check(log, (1, 1, 1, 1), 0)
        self.assertEqual([temper[0] for temper in found[4]], [A, G, V])
        self.assertEqual(dict(found[4][2][3])[("pass", A)], "spoils")
        # By section 9 nothing is wrong with this log, by section 14 there is.
        self.assertEqual(possible(SHOP, EDITIONS), ((),))
        self.assertEqual(blamed(SHOP, EDITIONS, (1, 1, 1, 1), 0)[0], "more")

    def test_against_all_reasons(self):
        chance = random.Random(141)
        found = {}
        for _ in range(700):
            log, prices, most = drawn_case(chance)
            told = self.check(log, prices, most, SMALL)
            key = (told[0], len(told[2]) if told[0] == "reasons" else 0)
            found[key] = found.get(key, 0) + 1
        self.assertGreater(min(found[("reasons", 0)], found[("reasons", 1)], found[("more", 0)]), 50)
        self.assertGreater(found[("reasons", 2)], 5)

    def test_a_lie(self):
        found = self.check(UNLIKE, (1, 9, 9, 9), 9)
        self.assertEqual(found[1], 1)
        self.assertIn(found[2], [(("lie", 0),), (("lie", 3),)])

    def test_a_lie_turns_its_letter(self):
        self.assertEqual(len(BOTH), 16)
        self.assertEqual(explaining(SHOP, BOTH, (1, 9, 9, 9), 1), [(("lie", 0),), (("lie", 7),)])
        found = blamed(SHOP, BOTH, (1, 9, 9, 9), 1)
        self.assertTrue(is_blamed(SHOP, BOTH, (1, 9, 9, 9), 1, found, 1))
        self.assertIn(found[2], [(("lie", 0),), (("lie", 7),)])
        temper = [temper for temper in found[4] if temper[0] == V][0]
        self.assertTrue({("pass", A), ("fail", A)} & set(dict(temper[3])))
        self.assertEqual(blamed(SHOP, BOTH, (1, 9, 9, 9), 0)[0], "more")

    def test_leaves(self):
        found = self.check(EDITIONS, (9, 1, 9, 9), 27)
        self.assertEqual(found[1:3], (1, (("leaves", ("a", 2)),)))
        kinds = dict([temper for temper in found[4] if temper[0] == V][0][3])
        self.assertTrue({("pass", A), ("pass", ("a", 2))} & set(kinds))

    def test_feels(self):
        log = turns((v1("pass"),), (run(("v", 3), "fail"),))
        found = self.check(log, (9, 9, 1, 9), 27)
        self.assertEqual(found[1:3], (1, (("feels", ("v", 3)),)))
        self.assertEqual([temper[0] for temper in found[4]], [G, V, ("v", 3)])

    def test_wild(self):
        log = turns((a1(), v1("pass")), (a1(), v1("fail")), (v1("pass"),))
        found = self.check(log, (9, 9, 9, 1), 27)
        self.assertEqual(found[1], 1)
        # Any of the letters that come last, or first if all are idle, can be the wild one.
        wild = [("wild", V, letter) for letter in ((), ("pass", A), ("pass", G))]
        self.assertEqual(explaining(SHOP, log, (9, 9, 9, 1), 1), [(reason,) for reason in wild])
        self.assertIn(found[2], [(reason,) for reason in wild])
        temper = [temper for temper in found[4] if temper[0] == V][0]
        self.assertIn("wild", [temper[2]] + list(dict(temper[3]).values()))

    def test_an_opening_is_wild(self):
        log = turns((run(V, "skip"),), (v1("pass"),))
        found = self.check(log, (1, 1, 1, 2), 27)
        self.assertEqual(found[1:3], (2, (("wild", G, ()),)))
        self.assertEqual(found[4], ((G, found[4][0][1], "wild", ()), (V, found[4][1][1], "pass", found[4][1][3])))
        self.assertEqual(self.check(log, (1, 1, 1, 2), 1)[0], "more")

    def test_classes_parted_twice(self):
        second, third = ("a", 4), ("a", 7)
        log = turns((a1(), v1("pass")), (run(second, "pass"), v1("fail")), (run(third, "pass"), v1("pass")))
        found = self.check(log, (9, 1, 9, 9), 27)
        self.assertEqual(found[1:3], (2, (("leaves", second), ("leaves", third))))
        kinds = dict([temper for temper in found[4] if temper[0] == V][0][3])
        self.assertTrue({("pass", A), ("pass", second), ("pass", third)} & set(kinds))
        self.assertIn([row[0] for row in found[5]][1:], [[(("leaves", second),)], [(("leaves", third),)]])
        log = turns((run(("v", 2), "pass"),), (run(("v", 5), "fail"),), (run(("v", 9), "pass"),))
        found = self.check(log, (9, 9, 1, 9), 27)
        self.assertEqual(found[1:3], (2, (("feels", ("v", 5)), ("feels", ("v", 9)))))
        self.assertEqual([temper[0] for temper in found[4]], [G, ("v", 2), ("v", 5), ("v", 9)])

    def test_names_by_the_least_edition_of_the_log(self):
        # Edition 2 was cut off, so it leaves no letter of its own; yet it names what edition 4 leaves and feels.
        for worth in (("run", "q", ("a", 2), "cut"), ("run", "q", ("a", 2), "skip")):
            log = (worth, ("clear",), ("fresh", "p"), run(("a", 4), "pass"), v1("fail"), ("clear",), ("fresh", "p"), v1("pass"))
            found = self.check(log, (1, 1, 1, 1), 27)
            things = [temper[0] for temper in found[4]]
            self.assertIn(("a", 2), things)
            self.assertNotIn(("a", 4), things)
            kinds = dict([temper for temper in found[4] if temper[0] == V][0][3])
            self.assertEqual(kinds.get(("pass", ("a", 2))), "spoils")
            self.assertIn(("leaves", ("a", 4)), all_reasons(SHOP, log))
        # So an edition that was only cut off can be what later ones are parted from.
        log = turns((a1(), v1("pass")), (run(("a", 2), "cut"),), (run(("a", 3), "pass"), v1("fail")))
        found = self.check(log, (9, 1, 9, 9), 9)
        self.assertEqual(found[1], 1)
        self.assertIn(found[2], [(("leaves", ("a", 2)),), (("leaves", ("a", 3)),)])
        self.assertEqual(
            explaining(SHOP, log, (9, 1, 9, 9), 1), [(("leaves", ("a", 2)),), (("leaves", ("a", 3)),)])

    def test_wild_without_names_does_nothing(self):
        log = turns((v1("pass"),), (run(("v", 2), "fail"),))
        self.assertTrue(is_explained(SHOP, log, (("wild", V, ()),)))
        self.assertFalse(is_explained(SHOP, log, (("wild", ("v", 2), ()),)))
        self.assertFalse(shows_blamed(SHOP, log, (9, 9, 9, 1), 9, (
            "reasons", 1, (("wild", ("v", 2), ()),), (), blamed(SHOP, log, (9, 9, 9, 1), 9)[4],
            blamed(SHOP, log, (9, 9, 9, 1), 9)[5])))

    def test_one_outcome_not_told(self):
        log = turns((v1("pass"),), (a1(None), v1("fail")), (run(B, "pass"), a1(), v1("pass")))
        found = self.check(log, (1, 1, 1, 1), 27)
        self.assertEqual(found[1:4], (0, (), ("fail",)))
        log = turns((v1("pass"),), (v1(None),), (v1("fail"),))
        found = self.check(log, (2, 9, 9, 3), 27)
        self.assertEqual(found[1], 2)
        rows = found[5][0][1]
        self.assertEqual([row[0] for row in rows], [("fail",), ("pass",), ("skip",)])

    def test_rows_with_filled_outcomes_touch_no_lie(self):
        log = turns((v1("pass"),), (v1(None),), (v1("fail"),))
        touched = {entry[0][0] for entry in blamed(SHOP, log, (1, 1, 1, 1), 27)[5] if entry[0]}
        self.assertNotIn(("lie", 3), touched)
        found = blamed(SHOP, log, (2, 9, 9, 3), 27)
        self.assertIn(found[2], [(("lie", 0),), (("lie", 6),)])

    def test_most(self):
        for most, word in ((0, "more"), (2, "more"), (3, "reasons"), (27, "reasons")):
            found = self.check(UNLIKE, (3, 9, 9, 4), most)
            self.assertEqual(found[0], word)
        self.assertEqual(blamed(SHOP, UNLIKE, (3, 9, 9, 4), 2)[1], blamed(SHOP, UNLIKE, (3, 9, 9, 4), 3)[5])
        found = self.check(UNLIKE, (9, 9, 9, 9), 27)
        self.assertEqual(found[1], 9)

    def test_at_most_three_reasons(self):
        # Things that pass and fail on the same fresh worker and clear store: one reason for each of them.
        shop = Shop((("g", ("a", "b", "c", "d")),))
        log = turns(*[(run((check, 1), outcome),) for check in "abc" for outcome in ("pass", "fail")])
        self.assertEqual(len(log), 16)
        for prices, most in (((4, 9, 9, 9), 27), ((9, 9, 9, 4), 12)):
            found = blamed(shop, log, prices, most)
            self.assertEqual((found[1], len(found[2])), (12, 3))
            self.assertTrue(shows_blamed(shop, log, prices, most, found))
            self.assertTrue(is_blamed(shop, log, prices, most, found, 12))
            self.assertEqual(max(len(entry[0]) for entry in found[5]), 2)
        found = blamed(shop, log, (4, 9, 9, 9), 11)
        self.assertEqual(found[0], "more")
        self.assertTrue(shows_blamed(shop, log, (4, 9, 9, 9), 11, found))

    def test_four_reasons_are_too_many(self):
        # Two openings and an item of each group, all of which pass and fail on a fresh worker and a clear store.
        shop = Shop((("g", ("a",)), ("h", ("v",))))
        log = turns(*[(run(item, outcome),) for item in (A, V) for outcome in ("skip", "pass", "fail")])
        self.assertEqual(len(log), 16)
        self.assertIsNone(least_price(shop, log, (1, 1, 1, 1), 27, list_of_likely(shop, log)))
        for prices, most in (((1, 1, 1, 1), 27), ((1, 9, 9, 9), 20), ((9, 9, 9, 9), 8)):
            found = blamed(shop, log, prices, most)
            self.assertTrue(is_blamed(shop, log, prices, most, found, None))
            self.assertTrue(shows_blamed(shop, log, prices, most, found))
            longest = max(len(entry[0]) for entry in found[1])
            self.assertEqual(longest, {27: 3, 20: 3, 8: 0}[most])

    def test_a_lie_that_is_touched_again(self):
        # One lie turned, the same run still clashes with others; a tuple has each reason once.
        log = turns(*[(v1(outcome),) for outcome in ("pass", "fail") * 3])
        found = blamed(SHOP, log, (1, 9, 9, 9), 27)
        self.assertEqual(least_price(SHOP, log, (1, 9, 9, 9), 27, list_of_likely(SHOP, log)), 3)
        self.assertTrue(is_blamed(SHOP, log, (1, 9, 9, 9), 27, found, 3))
        self.assertTrue(shows_blamed(SHOP, log, (1, 9, 9, 9), 27, found))
        self.assertIn(2, [len(entry[0]) for entry in found[5]])

    def test_book(self):
        found = blamed(SHOP, EDITIONS, (2, 3, 9, 4), 27)
        self.assertEqual((found[1], [entry[0] for entry in found[5]]), (2, [()]))
        found = self.check(EDITIONS, (2, 3, 9, 4), 1)
        self.assertEqual([entry[0] for entry in found[1]], [()])
        filling, thing, clashes = found[1][0][1][0]
        self.assertEqual((filling, thing, [clash[0] for clash in clashes]), ((), V, ["near", "far"]))
        self.assertEqual(clashes[0][1][0], (("pass", A), 1, 5))

    def test_kinds_of_tempers(self):
        log = turns((a1(), v1("pass")), (a1(), v1("fail")), (v1("pass"),))
        found = blamed(SHOP, log, (9, 9, 9, 1), 27)
        samples = read_samples(SHOP, log, found[3], found[2])
        for temper in found[4]:
            self.assertTrue(is_tempered(SHOP, samples, temper[0], temper, found[2]))

    def test_equal_calls(self):
        chance = random.Random(142)
        for _ in range(20):
            log, prices, most = drawn_case(chance)
            self.assertEqual(blamed(SMALL, log, prices, most), blamed(most=most, prices=prices, log=log, shop=SMALL))


def list_of_likely(shop, log):
    """Lies and first ones: whatever else would explain a thing, its first one being wild would."""
    return [reason for reason in all_reasons(shop, log) if reason[0] == "lie" or reason[2:] == ((),)]


class PlainStrikingTest(unittest.TestCase):
    def test_against_all_tempers(self):
        """Samples without a temper, some letters wild, are just those of which letters are struck to the end."""
        chance = random.Random(143)
        both = set()
        letters = [("pass", A), ("pass", B), ("fail", A)]
        for _ in range(600):
            rows = [
                (chance.choice(("pass", "fail")), tuple(chance.choice(letters) for _ in range(chance.randrange(4))))
                for _ in range(chance.randrange(1, 7))]
            wild = chance.sample(letters + [()], chance.choice((0, 0, 1, 1, 2)))
            right = False
            for kinds in itertools.product(("idle", "mends", "spoils", "wild"), repeat=3):
                told = dict(zip(letters, kinds))
                if any((told[letter] == "wild") != (letter in wild) for letter in letters):
                    continue
                for first in ("wild",) if () in wild else ("pass", "fail"):
                    moods = []
                    for _, row in rows:
                        left = [told[letter] for letter in row if told[letter] != "idle"]
                        moods.append({"mends": "pass", "spoils": "fail", "wild": "wild"}[left[-1]] if left else first)
                    right = right or all(mood in ("wild", row[0]) for mood, row in zip(moods, rows))
            self.assertEqual(strikes_out(rows, wild), not right, (rows, wild))
            both.add((right, bool(wild)))
        self.assertEqual(len(both), 4)


class ErrorsTest(unittest.TestCase):
    def calls(self, log, prices, most):
        yield blamed, (SHOP, log, prices, most)
        yield shows_blamed, (SHOP, log, prices, most, ("more", ()))

    def check(self, error, told, log, prices, most):
        for call, args in self.calls(log, prices, most):
            assert_raises(self, error, told, call, *args)

    def test_bad_log(self):
        for log in any_values() + [(("run", "p", V, "skip"), ("run", "p", ("v", 10), "pass")), (("run",),), UNLIKE * 8]:
            if log != ():
                self.check(BadLog, log, log, [], -1)

    def test_bad_prices(self):
        wrong = [(1, 1, 1), (1, 1, 1, 1, 1), (1, 1, 1, 0), (1, 1, 1, 10), (True, 1, 1, 1), (1, "1", 1, 1), [1, 1, 1, 1]]
        for prices in any_values() + wrong + [(1, 1, None, 1), (1, 1, 1, -1)]:
            self.check(BadPrices, prices, UNLIKE * 5, prices, 28)

    def test_bad_most(self):
        for most in [value for value in any_values() if value not in (0, 1, 2, 5)] + [-1, 28, True, False, "3"]:
            self.check(BadMost, most, UNLIKE * 5, (1, 1, 1, 1), most)

    def test_full(self):
        sixteen = turns((a1(), v1("pass")), (a1(), v1("pass")), (a1(), v1("pass")), (a1(), v1("pass"))) + (a1(), v1("pass"))
        self.assertEqual(len(sixteen), 16)
        self.assertEqual(blamed(SHOP, sixteen, (9, 9, 9, 9), 27)[0], "reasons")
        seventeen = sixteen + (("gap", "p"),)
        self.check(Full, seventeen, seventeen, (9, 1, 9, 1), 0)
        one, two = (v1(None),), (v1(None), a1(None))
        self.assertEqual(blamed(SHOP, one, (1, 1, 1, 1), 0)[:3], ("reasons", 0, ()))
        self.check(Full, two, two, (1, 1, 1, 1), 27)

    def test_bounds_let(self):
        for prices in ((1, 1, 1, 1), (9, 9, 9, 9)):
            for most in (0, 27):
                self.assertIn(blamed(SHOP, UNLIKE, prices, most)[0], ("more", "reasons"))


if __name__ == "__main__":
    unittest.main()

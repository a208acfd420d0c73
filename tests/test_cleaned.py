"""Point 17: with_offers, cleaned, shows_cleaned; point 3 (d), (e)."""

import random
import unittest

from spoilorder.cleaning import cleaned, shows_cleaned, with_offers
from spoilorder.driving import Runner, drive
from spoilorder.errors import BadMany, BadOffers, BadPrices, TooMany
from spoilorder.glasses import Glass
from spoilorder.hosts import Host
from tests.common import FOUR_HUNDRED, ONE_MORE, any_values, assert_raises, counting, some_otherwise
from tests.plain import random_glass
from tests.plain_cleaning import (
    all_sets, is_cleaned, is_failing_row, other_cleaned, plain_cleaned, plain_text, random_offers, roam)

TEXT = "\n".join([
    "cell c ok bad", "shared d lo mid hi", "group g", "  open", "    want c ok", "    if d = hi", "      set d mid",
    "    else", "      set d hi", "  check a 1", "    set c bad", "  check b 1", "group h", "  close", "    set d lo",
    "  check v 1", "    want c ok", "    want d lo"])
DOCUMENT = Glass("\n".join([
    "cell c ok bad", "group g", "  check a 1", "    set c bad", "group h", "  check v 1", "    want c ok"]))
OFFERS = (("g", "close", "c", "ok"), ("h", "open", "c", "ok"))


def small_glass(chance):
    while True:
        glass = random_glass(chance)
        if len(roam(glass, 2)[0]) < 60:
            return glass


class WithOffersTest(unittest.TestCase):
    def test_behind_all_commands(self):
        offers = (("g", "close", "c", "ok"), ("g", "open", "c", "ok"), ("g", "open", "d", "lo"), ("h", "close", "c", "bad"))
        found = with_offers(Glass(TEXT), offers + (("h", "open", "d", "mid"),))
        self.assertEqual(found.text, "\n".join([
            "cell c ok bad", "shared d lo mid hi", "group g", "  open", "    want c ok", "    if d = hi", "      set d mid",
            "    else", "      set d hi", "    set c ok", "    set d lo", "  close", "    set c ok", "  check a 1",
            "    set c bad", "  check b 1", "group h", "  open", "    set d mid", "  close", "    set d lo", "    set c bad",
            "  check v 1", "    want c ok", "    want d lo"]))
        self.assertIsInstance(found, Glass)

    def test_against_plain_text(self):
        chance = random.Random(171)
        for _ in range(150):
            glass = random_glass(chance)
            offers = random_offers(chance, glass, chance.randrange(6))
            text = glass.text
            self.assertEqual(with_offers(glass=glass, offers=offers).text, plain_text(text, offers))
            self.assertEqual(glass.text, text)

    def test_no_offers(self):
        self.assertTrue(with_offers(Glass(TEXT), ()) == Glass(TEXT))

    def test_several_words_of_a_cell(self):
        found = with_offers(DOCUMENT, (("g", "open", "c", "bad"), ("g", "open", "c", "ok")))
        self.assertEqual(found.text.split("\n")[1:5], ["group g", "  open", "    set c bad", "    set c ok"])

    def test_ten_commands(self):
        for block in ("open", "close"):
            for many in (8, 9, 10):
                lines = ["cell c ok bad", "group g", "  " + block, "    if c = ok", "      set c bad", "      set c ok", "    else"]
                lines += ["      set c bad"] * 10 + ["    set c ok"] * (many - 1) + ["  check a 1"]
                glass = Glass("\n".join(lines))
                one, two = (("g", block, "c", "bad"),), (("g", block, "c", "bad"), ("g", block, "c", "ok"))
                for offers in (one, two):
                    if many + len(offers) <= 10:
                        self.assertEqual(with_offers(glass, offers).text, plain_text(glass.text, offers))
                    else:
                        self.refused(glass, offers)
                other = {"open": "close", "close": "open"}[block]
                self.assertTrue(with_offers(glass, (("g", other, "c", "bad"),)).text)

    def refused(self, glass, offers):
        assert_raises(self, BadOffers, offers, with_offers, glass, offers)
        for call, rest in ((cleaned, ()), (shows_cleaned, (None,))):
            assert_raises(self, BadOffers, offers, call, glass, offers, "prices", "many", *rest)

    def test_bad_offers(self):
        glass, offer = Glass(TEXT), ("g", "open", "c", "ok")
        wrong = any_values()
        wrong += [(value,) for value in any_values()]
        for place in range(4):
            wrong += [(offer[:place] + (value,) + offer[place + 1:],) for value in any_values() + ["z", "set", ""]]
        wrong += [
            (("a", "open", "c", "ok"),), (("g", "check", "c", "ok"),), (("g", "open", "a", "ok"),), (("g", "open", "c", "lo"),),
            (("g", "open", "d", "ok"),), (offer[:3],), (offer + ("ok",),), [offer], (list(offer),), offer, (offer, offer),
            (("h", "open", "c", "ok"), offer), (offer, ("g", "close", "c", "ok"))]
        every = [("g", block, "d", word) for block in ("close", "open") for word in ("hi", "lo", "mid")]
        wrong.append(tuple(every))
        for offers in wrong:
            if offers != ():
                self.refused(glass, offers)
        self.assertEqual(with_offers(glass, tuple(every[:5])).text, plain_text(glass.text, every[:5]))

    def test_a_glass_without_cells(self):
        glass = Glass("group g\n  check a 1\n    fail")
        self.refused(glass, (("g", "open", "c", "ok"),))
        self.assertEqual(cleaned(glass, (), (), 1), ("none", (((), (("run", 0, ("a", 1)),)),)))


class CleanedTest(unittest.TestCase):
    def check(self, glass, offers, prices, many):
        if max(len(roam(with_offers(glass, some), many)[0]) for _, some in all_sets(offers, prices)) > 400:
            self.assertRaises(TooMany, cleaned, glass, offers, prices, many)
            return ("too many",)
        found = cleaned(glass, offers, prices, many)
        right = plain_cleaned(glass, offers, prices, many)
        self.assertTrue(is_cleaned(glass, offers, prices, many, found, right), (glass.text, offers, prices, many))
        self.assertTrue(shows_cleaned(glass, offers, prices, many, found))
        return found

    def test_document(self):
        found = cleaned(DOCUMENT, OFFERS, (2, 3), 1)
        self.assertEqual([found[:3], found[4]], [
            ("clean", 2, (("g", "close", "c", "ok"),)), (((), (("run", 0, ("a", 1)), ("run", 0, ("v", 1)))),)])
        self.check(DOCUMENT, OFFERS, (2, 3), 1)

    def test_against_all_sets(self):
        chance = random.Random(172)
        words = {}
        for _ in range(80):
            glass = small_glass(chance)
            offers = random_offers(chance, glass, chance.choice((0, 1, 1, 2, 3, 5)))
            prices = tuple(chance.choice(((1,), (1, 2, 9), (1, 2, 3, 4, 5, 6, 7, 8, 9))[len(offers) % 3]) for _ in offers)
            found = self.check(glass, offers, prices, chance.choice((1, 2)))
            words[found[0]] = words.get(found[0], 0) + 1
        self.assertGreater(min(words["clean"], words["none"]), 5)

    def test_cleaned_by_some(self):
        chance = random.Random(173)
        sizes = {}
        while len(sizes) < 3 or min(sizes.values()) < 3:
            # Cells that checks leave bad and want ok, with offers that set them so.
            cells = [(kind, name) for kind, name in zip(chance.choice(("cs", "sc", "cc")), "xy")]
            lines = [("cell" if kind == "c" else "shared") + f" {name} ok bad" for kind, name in cells]
            for group, checks in (("g", "ab"), ("h", "v")):
                lines.append("group " + group)
                for check in checks:
                    lines.append(f"  check {check} 1")
                    for word in chance.sample(("want x ok", "want y ok", "set x bad", "set y bad"), chance.randrange(3)):
                        lines.append("    " + word)
            glass = Glass("\n".join(lines))
            offers = tuple(sorted(chance.sample([
                (group, block, cell, "ok") for group in "gh" for block in ("open", "close") for cell in "xy"], 4)))
            found = self.check(glass, offers, tuple(chance.randrange(1, 10) for _ in offers), chance.choice((1, 2)))
            if found[0] == "clean":
                sizes[len(found[2])] = sizes.get(len(found[2]), 0) + 1

    def test_no_offers(self):
        clean = Glass("cell c ok bad\ngroup g\n  check a 1\n    set c bad")
        self.assertEqual(cleaned(clean, (), (), 1), ("clean", 0, (), (
            (((("", ("ok",)),)), ()), (((("g", ("bad",)),)), ())), ()))
        self.assertEqual(cleaned(offers=(), glass=DOCUMENT, many=2, prices=())[0], "none")

    def test_least_price_then_least_tuple(self):
        # Each of the offers cleans; so do several, which cost more.
        offers = (("g", "close", "c", "ok"), ("h", "open", "c", "ok"))
        for prices, some in (((1, 1), offers[:1]), ((2, 1), offers[1:]), ((9, 9), offers[:1]), ((1, 9), offers[:1])):
            found = self.check(DOCUMENT, offers, prices, 2)
            self.assertEqual(found[1:3], (min(prices), some))
            self.assertEqual([entry[0] for entry in found[-1]], [
                some for price, some in all_sets(offers, prices) if (price, some) < found[1:3]])

    def test_book_goes_by_price_then_by_tuple(self):
        text = "cell c ok bad\nshared d ok bad\ngroup g\n  check a 1\n    fail"
        offers = (("g", "close", "c", "bad"), ("g", "close", "d", "ok"), ("g", "open", "c", "ok"))
        for prices in ((1, 1, 1), (3, 1, 2), (1, 9, 4), (2, 1, 1)):
            found = self.check(Glass(text), offers, prices, 1)
            self.assertEqual(found[0], "none")
            self.assertEqual([entry[0] for entry in found[1]], [some for _, some in all_sets(offers, prices)])
            self.assertEqual(len(found[1]), 8)
        self.assertEqual(found[1][0], ((), (("run", 0, ("a", 1)),)))

    def test_openings_are_things(self):
        glass = Glass("cell c ok bad\ngroup g\n  open\n    want c ok\n  check a 1\n    set c bad\ngroup h\n  check v 1")
        found = self.check(glass, (("g", "close", "c", "ok"),), (4,), 1)
        self.assertEqual(found[:3], ("clean", 4, (("g", "close", "c", "ok"),)))
        moves = found[-1][0][1]
        self.assertEqual(moves, (("run", 0, ("a", 1)), ("run", 0, ("v", 1)), ("run", 0, ("a", 1))))

    def test_two_workers(self):
        text = "shared c ok bad\ngroup g\n  check a 1\n    set c bad\ngroup h\n  check v 1\n    want c ok"
        offers = (("g", "close", "c", "ok"), ("h", "open", "c", "ok"))
        # A worker that is made fresh closes no group, so what a has left stays in the store.
        self.assertEqual(self.check(Glass(text), offers[:1], (1,), 1)[0], "none")
        self.assertEqual(self.check(Glass(text), offers[1:], (1,), 1)[0], "clean")
        # Amid the group of v on one worker, a runs on the other one.
        self.assertEqual(self.check(Glass(text), offers, (1, 1), 2)[0], "none")

    def test_states(self):
        found = cleaned(DOCUMENT, OFFERS, (2, 3), 1)
        self.assertEqual(found[3], tuple(sorted(roam(with_offers(DOCUMENT, OFFERS[:1]), 1)[0])))

    def test_errors_in_their_sequence(self):
        for call, rest in ((cleaned, ()), (shows_cleaned, (None,))):
            for prices in any_values() + [(2,), (2, 3, 4), (0, 3), (10, 3), (True, 3), [2, 3], ("2", 3), (2, None)]:
                assert_raises(self, BadPrices, prices, call, DOCUMENT, OFFERS, prices, "many", *rest)
            for prices in [value for value in any_values() if value != ()]:
                assert_raises(self, BadPrices, prices, call, DOCUMENT, (), prices, 1, *rest)
            for many in [value for value in any_values() if repr(value) not in "12"] + [0, 3, True, "1", (1,)]:
                assert_raises(self, BadMany, many, call, DOCUMENT, OFFERS, (2, 3), many, *rest)
            large = Glass(counting(0, False))
            assert_raises(self, BadMany, 3, call, large, (), (), 3, *rest)

    def test_too_many(self):
        for call, rest in ((cleaned, ()), (shows_cleaned, (None,))):
            with self.assertRaises(TooMany) as caught:
                call(Glass(ONE_MORE), (), (), 2, *rest)
            self.assertEqual(caught.exception.number, 400)
        self.assertEqual(len(roam(Glass(FOUR_HUNDRED), 2)[0]), 400)
        self.assertEqual(cleaned(Glass(FOUR_HUNDRED), (), (), 2)[0], "none")
        self.assertEqual(cleaned(Glass(ONE_MORE), (), (), 1)[0], "none")

    def test_too_many_with_some_offers(self):
        # A clean set does not help if another one, which cleans nothing or costs more, leads to too many states.
        lines = ["cell on n y", "cell carry n y"] + [f"cell {name} lo hi" for name in "abcde"]
        lines += ["group g", "  check z 1", "    if on = y", "      set carry y"]
        for name in "abcde":
            lines += ["    if carry = y", f"      if {name} = lo", f"        set {name} hi", "        set carry n"]
            lines += ["      else", f"        set {name} lo"]
        glass, offers = Glass("\n".join(lines)), (("g", "open", "on", "n"), ("g", "open", "on", "y"))
        self.assertEqual(cleaned(glass, offers[:1], (9,), 2)[:3], ("clean", 0, ()))
        self.assertGreater(len(roam(with_offers(glass, offers[1:]), 2)[0]), 400)
        for some in (offers[1:], offers):
            for call, rest in ((cleaned, ()), (shows_cleaned, (None,))):
                with self.assertRaises(TooMany) as caught:
                    call(glass, some, (9,) * len(some), 2, *rest)
                self.assertEqual(caught.exception.number, 400)
            self.assertEqual(cleaned(glass, some, (9,) * len(some), 1)[0], "clean")


class ShowsCleanedTest(unittest.TestCase):
    def test_of_any_maker(self):
        chance = random.Random(174)
        seen = {True: 0, False: 0}
        for _ in range(60):
            glass = small_glass(chance)
            offers = random_offers(chance, glass, chance.randrange(3))
            prices, many = tuple(chance.randrange(1, 10) for _ in offers), chance.choice((1, 2))
            right = plain_cleaned(glass, offers, prices, many)
            value = other_cleaned(chance, glass, offers, prices, many, right)
            self.assertTrue(shows_cleaned(glass, offers, prices, many, value))
            for other in some_otherwise(chance, value, 40):
                is_right = is_cleaned(glass, offers, prices, many, other, right)
                self.assertIs(shows_cleaned(glass, offers, prices, many, other), is_right, other)
                seen[is_right] += 1
        self.assertGreater(min(seen.values()), 10)

    def test_any_values(self):
        found = cleaned(DOCUMENT, OFFERS, (2, 3), 1)
        for value in any_values():
            self.assertIs(shows_cleaned(DOCUMENT, OFFERS, (2, 3), 1, value), False)
            for place in range(5):
                other = found[:place] + (value,) + found[place + 1:]
                right = place == 1 and repr(value) == "2"
                self.assertIs(shows_cleaned(DOCUMENT, OFFERS, (2, 3), 1, other), right)
            for book in ((value,), (((), value),), (((), (value,)),), ((value, found[4][0][1]),) if value != () else ()):
                self.assertFalse(shows_cleaned(DOCUMENT, OFFERS, (2, 3), 1, found[:4] + (book,)))

    def test_rows_of_moves(self):
        found = cleaned(DOCUMENT, OFFERS, (2, 3), 1)
        a, v = ("run", 0, ("a", 1)), ("run", 0, ("v", 1))
        for moves, right in (
                ((a, v), True), ((a, a, v), True), ((v, a, v), True), ((a, ("fresh", 0), a, ("clear",), v), True),
                ((a, v, v), False), ((a, v, a), False), ((a,), False), ((), False), ((a, ("fresh", 0), v), False),
                ((a, ("run", 1, ("v", 1))), False), ((a, ("run", False, ("v", 1))), False), ((a, ("fresh", 1), v), False),
                ([a, v], False), ((a, v, ("clear",)), False), ((a, ("run", 0, ("v", 2))), False)):
            value = found[:4] + ((((), moves),),)
            self.assertIs(shows_cleaned(glass=DOCUMENT, offers=OFFERS, prices=(2, 3), many=1, value=value), right)
            if isinstance(moves, tuple):
                self.assertIs(is_failing_row(DOCUMENT, 1, moves), right)

    def test_other_sets(self):
        found = cleaned(DOCUMENT, OFFERS, (2, 3), 1)
        dear = cleaned(DOCUMENT, OFFERS, (4, 3), 1)
        self.assertNotEqual(found[2], dear[2])
        self.assertFalse(shows_cleaned(DOCUMENT, OFFERS, (2, 3), 1, dear))
        self.assertFalse(shows_cleaned(DOCUMENT, OFFERS, (4, 3), 1, found))
        self.assertFalse(shows_cleaned(DOCUMENT, OFFERS, (2, 3), 1, ("none", found[4])))


class DrivenTest(unittest.TestCase):
    def test_rounds_of_clean_programs(self):
        """With the set that is told as clean no move fails, and a round ends within as many runs as it has checks."""
        chance = random.Random(175)
        rounds = 0
        while rounds < 25:
            glass = small_glass(chance)
            offers = random_offers(chance, glass, 4)
            found = cleaned(glass, offers, (1,) * len(offers), 2)
            for some, moves in found[-1]:
                runner = Runner(with_offers(glass, some), ("p", "q"))
                outcomes = []
                for move in moves:
                    worker = "pq"[move[1]] if len(move) > 1 else ""
                    outcomes.append(
                        runner.run(worker, move[2]) if move[0] == "run" else
                        runner.fresh(worker) if move[0] == "fresh" else runner.clear())
                self.assertEqual([outcome in ("fail", "skip") for outcome in outcomes], [False] * (len(moves) - 1) + [True])
            if found[0] == "clean":
                clean = with_offers(glass, found[2])
                host, runner = Host(clean.shop, ("p", "q")), Runner(clean, ("p", "q"))
                for _ in range(2):
                    host.begin(clean.shop.checks)
                    many = len(clean.shop.checks)
                    self.assertEqual(drive(host, runner, many), ((), many))
                rounds += 1


if __name__ == "__main__":
    unittest.main()

"""Point 14: shows_blamed, whoever made the value; point 3 (a)."""

import random
import unittest

from spoilorder.blaming import blamed, shows_blamed
from tests.common import A, B, G, V, any_values, one_group, some_otherwise
from tests.plain_blaming import explaining, is_blamed, least_price, other_result
from tests.test_blamed import BOTH, EDITIONS, SHOP, SMALL, UNLIKE, a1, drawn_case, run, turns, v1

EDITIONS_OF_SMALL = turns((a1(), v1("pass")), (run(("a", 2), "pass"), v1("fail")))


class ShowsBlamedTest(unittest.TestCase):
    def test_of_any_maker(self):
        chance = random.Random(144)
        words, reasons, books = set(), set(), 0
        for log, prices, most in [drawn_case(chance) for _ in range(300)] + [(EDITIONS_OF_SMALL, (2, 1, 3, 4), 9)]:
            least = least_price(SMALL, log, prices, most)
            for _ in range(3):
                value = other_result(chance, SMALL, log, prices, most, least)
                self.assertTrue(is_blamed(SMALL, log, prices, most, value, least))
                self.assertTrue(shows_blamed(SMALL, log, prices, most, value), (log, prices, most, value))
                words.add(value[0])
                books += value != blamed(SMALL, log, prices, most)
                if value[0] == "reasons":
                    reasons |= {(reason[0], reason[2:] == ((),)) for reason in value[2]}
        self.assertEqual(words, {"more", "reasons"})
        self.assertEqual(len(reasons), 5)
        self.assertGreater(books, 300)

    def test_all_reasons_of_the_least_price(self):
        log = turns((a1(), v1("pass")), (a1(), v1("fail")), (v1("pass"),))
        prices, chance = (9, 9, 9, 1), random.Random(145)
        seen = set()
        for _ in range(40):
            value = other_result(chance, SHOP, log, prices, 27, 1)
            self.assertTrue(shows_blamed(SHOP, log, prices, 27, value))
            seen.add(value[2])
        self.assertEqual(seen, set(explaining(SHOP, log, prices, 1)))
        self.assertIn((("wild", V, ("pass", A)),), seen)

    def test_both_lies(self):
        chance = random.Random(146)
        found = set()
        for _ in range(20):
            value = other_result(chance, SHOP, BOTH, (1, 9, 9, 9), 9, 1)
            self.assertTrue(shows_blamed(SHOP, BOTH, (1, 9, 9, 9), 9, value))
            found.add(value[2])
        self.assertEqual(found, {(("lie", 0),), (("lie", 7),)})

    def test_one_thing_otherwise(self):
        chance = random.Random(147)
        seen = {True: 0, False: 0}
        cases = [drawn_case(chance) for _ in range(60)]
        cases += [(EDITIONS, (1, 1, 1, 1), 9), (UNLIKE, (2, 9, 9, 3), 27), (UNLIKE, (2, 9, 9, 3), 1)]
        for log, prices, most in cases:
            least = least_price(SMALL if log not in (EDITIONS, UNLIKE) else SHOP, log, prices, most)
            shop = SMALL if log not in (EDITIONS, UNLIKE) else SHOP
            value = other_result(chance, shop, log, prices, most, least)
            for other in some_otherwise(chance, value, 60):
                right = is_blamed(shop, log, prices, most, other, least)
                self.assertIs(shows_blamed(shop, log, prices, most, other), right, (log, prices, most, other))
                seen[right] += 1
        self.assertGreater(min(seen.values()), 20)

    def test_any_values(self):
        found = blamed(SHOP, EDITIONS, (2, 1, 9, 9), 9)
        for value in any_values():
            self.assertIs(shows_blamed(SHOP, EDITIONS, (2, 1, 9, 9), 9, value), False)
            for place in range(6):
                other = found[:place] + (value,) + found[place + 1:]
                right = place == 1 and repr(value) == "1"
                self.assertIs(shows_blamed(SHOP, EDITIONS, (2, 1, 9, 9), 9, other), right)
            self.assertFalse(shows_blamed(SHOP, EDITIONS, (2, 1, 9, 9), 9, found[:5] + ((value,),)))
            self.assertFalse(shows_blamed(SHOP, EDITIONS, (2, 1, 9, 9), 9, found[:5] + ((((), value),),)))
            self.assertFalse(shows_blamed(SHOP, EDITIONS, (2, 1, 9, 9), 9, found[:2] + ((value,),) + found[3:]))
            self.assertFalse(shows_blamed(SHOP, EDITIONS, (2, 1, 9, 9), 9, found[:4] + ((value,),) + found[5:]))
            self.assertFalse(shows_blamed(SHOP, EDITIONS, (2, 1, 9, 9), 0, ("more", (value,))))

    def test_dear_reasons(self):
        # What explains the log, but is not the cheapest that does.
        cheap = blamed(SHOP, EDITIONS, (9, 1, 9, 9), 27)
        dear = blamed(SHOP, EDITIONS, (9, 2, 9, 9), 27)
        self.assertEqual(cheap[2], dear[2])
        self.assertFalse(shows_blamed(SHOP, EDITIONS, (9, 1, 9, 9), 27, dear))
        lies = blamed(SHOP, EDITIONS, (2, 9, 9, 9), 27)
        for book in (lies[5], cheap[5]):
            self.assertFalse(shows_blamed(SHOP, EDITIONS, (2, 1, 9, 9), 27, lies[:5] + (book,)))
        self.assertFalse(shows_blamed(SHOP, EDITIONS, (2, 1, 9, 9), 27, ("more", lies[5])))
        more = blamed(SHOP, EDITIONS, (2, 9, 9, 9), 1)
        self.assertTrue(shows_blamed(SHOP, EDITIONS, (2, 9, 9, 9), 1, more))
        self.assertFalse(shows_blamed(SHOP, EDITIONS, (2, 9, 9, 9), 2, more))
        self.assertFalse(shows_blamed(SHOP, EDITIONS, (2, 9, 9, 9), 1, lies))

    def test_reasons_that_are_none(self):
        found = blamed(SHOP, EDITIONS, (9, 1, 9, 9), 27)
        for reasons in ((("leaves", A),), (("leaves", B),), (("feels", ("a", 2)), ("leaves", ("a", 2))), (("lie", 2),),
                        (("leaves", ("a", 2)), ("leaves", ("a", 2))), [("leaves", ("a", 2))], (["leaves", ("a", 2)],),
                        (("lie", True),), (("wild", ("b", 0), ()),), (("wild", V, []),), (("wild", V),), ((), ()),
                        (("leave", ("a", 2)),), (("pass", ("a", 2)),), (("leaves", ("a", True)),), (("leaves", ["a", 2]),),
                        (("leaves", "a"),), (("leaves", ("a", 3)),), (("lie", "0"),), (("lie", None),), (("lie", -1),),
                        (("lie", 6),), (("lie", (0,)),), (("lie", 0, ()),), (("wild", "v", ()),), (("wild", V, "a"),),
                        (("wild", V, ("pass", ("a", 10))),), (("mild", V, ()),), (("feels", ("v", 2)),), ("leaves",), (None,)):
            for price in (0, 1, 2, 9, 10):
                other = ("reasons", price, reasons) + found[3:]
                self.assertFalse(shows_blamed(SHOP, EDITIONS, (9, 1, 9, 9), 27, other), reasons)
            book = ((reasons, found[5][0][1]),)
            for other in (book, found[5] + book, book + found[5]):
                self.assertFalse(shows_blamed(SHOP, EDITIONS, (9, 1, 9, 9), 27, found[:5] + (other,)), reasons)
                self.assertFalse(shows_blamed(SHOP, EDITIONS, (9, 1, 9, 9), 0, ("more", other)), reasons)

    def test_wild_letters_are_never_struck(self):
        # The opening and v both have no temper, so that one wild letter of v stands in the book.
        log = turns((run(V, "skip"),), (a1(), v1("pass")), (a1(), v1("fail")), (v1("pass"),), (v1("fail"),))
        prices, chance = (9, 9, 9, 1), random.Random(149)
        reasons = (("wild", V, ("pass", A)),)
        value = ()
        while reasons not in [entry[0] for entry in (value[-1] if value else ())]:
            value = other_result(chance, SHOP, log, prices, 2, 2)
        self.assertTrue(shows_blamed(SHOP, log, prices, 2, value))
        for strikings, ends, right in (
                (((("pass", G), 11, 14),), (11, 14), True), (((("pass", A), 4, 8), (("pass", G), 11, 14)), (11, 14), False),
                (((("pass", A), 4, 8), (("pass", G), 4, 8)), (4, 8), False)):
            clashes = tuple((where, strikings, ends) for where in ("near", "far"))
            book = tuple((one, (((), V, clashes),) if one == reasons else rows) for one, rows in value[-1])
            self.assertIs(shows_blamed(SHOP, log, prices, 2, value[:-1] + (book,)), right)

    def test_tempers(self):
        log = turns((a1(), v1("pass")), (a1(), v1("fail")), (v1("pass"),))
        found = blamed(SHOP, log, (9, 9, 9, 1), 27)
        samples_of_b = (B, "near", "pass", ())
        other = found[4][:1] + (samples_of_b,) + found[4][1:]
        self.assertFalse(shows_blamed(SHOP, log, (9, 9, 9, 1), 27, found[:4] + (other,) + found[5:]))
        self.assertFalse(shows_blamed(SHOP, log, (9, 9, 9, 1), 27, found[:4] + (found[4][:2],) + found[5:]))
        for place, temper in enumerate(found[4]):
            if temper[0] != V:
                wild = found[4][:place] + ((temper[0], temper[1], "wild", temper[3]),) + found[4][place + 1:]
                self.assertFalse(shows_blamed(SHOP, log, (9, 9, 9, 1), 27, found[:4] + (wild,) + found[5:]))
                kinds = ((("pass", G), "wild"),)
                wild = found[4][:place] + ((temper[0], temper[1], temper[2], kinds),) + found[4][place + 1:]
                self.assertFalse(shows_blamed(SHOP, log, (9, 9, 9, 1), 27, found[:4] + (wild,) + found[5:]))

    def test_book_of_its_own_rows(self):
        # Which letters are struck, and by which samples, hangs on the maker, and with it what comes into the book.
        log = turns((a1(), v1("pass")), (run(("a", 2), "pass"), v1("fail")), (a1(), v1("fail")))
        chance, prices = random.Random(148), (4, 2, 2, 9)
        values = {}
        for _ in range(60):
            value = other_result(chance, SHOP, log, prices, 27, 4)
            self.assertTrue(shows_blamed(SHOP, log, prices, 27, value))
            values[tuple(entry[0] for entry in value[-1])] = value
        self.assertGreater(len(values), 1)
        one, other = [values[key] for key in sorted(values, key=len)][::len(values) - 1]
        self.assertGreater(len(other[-1]), len(one[-1]))
        rows = dict(other[-1] + one[-1])
        books = [
            tuple((reasons, rows[reasons]) for reasons in sorted(rows)), other[-1][:-1], other[-1][::-1],
            other[-1] + other[-1][-1:], other[-1][1:], list(other[-1]), ()]
        for book in books:
            self.assertFalse(shows_blamed(SHOP, log, prices, 27, one[:-1] + (book,)))


if __name__ == "__main__":
    unittest.main()

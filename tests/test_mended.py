"""Point 12: mended and shows_mended."""

import random
import unittest

from spoilorder.errors import BadItems, BadLog, BadMost, Full, NoWorker, NoWorld
from spoilorder.plans import is_safe, mended, shows_mended
from tests.common import A, B, G, V, a_world, any_values, assert_raises, one_group, some_otherwise
from tests.plain_plans import all_mended, is_mended, is_plain_safe, is_unsafe, runs_of
from tests.test_filled import NO_WORLD
from tests.test_is_safe import LOG, some_logs, told_run

SHOP = one_group()


class MendedTest(unittest.TestCase):
    def test_documents_log(self):
        found = mended(shop=SHOP, log=LOG, items=(A, V), menders=(B,), worker="p", most=1)
        self.assertEqual(found[:2], ("order", (A, B, V)))
        self.assertTrue(is_mended(SHOP, LOG, (A, V), (B,), "p", 1, found))
        self.assertEqual([entry[0] for entry in found[2]], sorted({entry[0] for entry in found[2]}))
        none = mended(SHOP, LOG, (A, V), (B,), "p", 0)
        self.assertEqual((none[0], [entry[0] for entry in none[1]]), ("none", [(A, V), (V, A)]))
        self.assertEqual(mended(SHOP, LOG, (A, V), (B,), "q", 2)[:2], ("order", (A, B, V)))

    def test_nothing_to_mend(self):
        self.assertEqual(mended(SHOP, LOG, (V,), (A, B), "p", 2), ("order", (V,), ()))
        found = mended(SHOP, (), (A,), (B,), "p", 2)
        self.assertEqual((found[0], [entry[0] for entry in found[1]]), ("none", [(A,), (B,)]))

    def test_menders_need_not_be_of_different_checks(self):
        menders = (("a", 2), ("a", 3))
        found = mended(SHOP, (), (A,), menders, "p", 2)
        self.assertEqual((found[0], [entry[0] for entry in found[1]]), ("none", [(A,), menders[:1], menders[1:]]))
        self.assertTrue(shows_mended(SHOP, (), (A,), menders, "p", 2, found))

    def test_a_mender_twice(self):
        # Nothing is sure but that b passes on a fresh worker: each order goes wrong, those with b twice, too.
        log = (told_run("p", B, "pass"), ("fresh", "p"), ("clear",))
        found = mended(SHOP, log, (A,), (B,), "p", 2)
        early = [entry[0] for entry in found[1]]
        self.assertEqual((found[0], early), ("none", [(A,), (B, A), (B, B)]))
        self.assertTrue(shows_mended(SHOP, log, (A,), (B,), "p", 2, found))
        self.assertEqual([entry[0] for entry in mended(SHOP, log, (A,), (B,), "p", 1)[1]], [(A,), (B, A)])

    def test_against_all_orders(self):
        chance = random.Random(111)
        seen = []
        for log in some_logs(chance, 40):
            items = tuple(sorted(chance.sample([A, B, V], chance.choice((1, 2)))))
            rest = [item for item in (A, B, V) if item not in items]
            menders = tuple(sorted(chance.sample(rest, chance.randrange(1, len(rest) + 1))))
            worker, most = chance.choice("pq"), chance.choice((0, 1, 2))
            found = mended(SHOP, log, items, menders, worker, most)
            orders = all_mended(items, menders, most)
            safe = [order for order in orders if is_plain_safe(SHOP, log, runs_of(worker, order))]
            self.assertEqual(found[0], "order" if safe else "none")
            if safe:
                self.assertEqual(found[1], safe[0])
            self.assertTrue(is_mended(SHOP, log, items, menders, worker, most, found))
            self.assertTrue(shows_mended(SHOP, log, items, menders, worker, most, found))
            for order in safe[1:3]:
                self.assertFalse(shows_mended(SHOP, log, items, menders, worker, most, ("order", order) + found[2:]))
            seen.append((found[0], len(items), most))
        self.assertGreater(len(set(seen)), 8)


class ErrorsTest(unittest.TestCase):
    def raises(self, error, told, log, items, menders, worker, most):
        assert_raises(self, error, told, mended, SHOP, log, items, menders, worker, most)
        assert_raises(
            self, error, told, mended, shop=SHOP, log=log, items=items, menders=menders, worker=worker, most=most)
        assert_raises(self, error, told, shows_mended, SHOP, log, items, menders, worker, most, ("none", ()))

    def setUp(self):
        self.full = LOG + (told_run("p", A), told_run("p", A))

    def test_bad_log_and_no_world(self):
        for value in [value for value in any_values() if value != ()]:
            self.raises(BadLog, value, value, None, None, None, None)
        for log in (NO_WORLD, NO_WORLD + (told_run("p", A), told_run("p", A))):
            self.raises(NoWorld, log, log, None, None, None, None)

    def test_bad_items(self):
        wrong = any_values() + [(), [A], (A, A), (B, A), (A, ("a", 2)), (G,), (("a", True),), (A, B, V), (("x", 1),), (["a", 1],), A]
        for value in wrong:
            self.raises(BadItems, value, LOG, value, (B,), "p", 1)
            self.raises(BadItems, value, self.full, value, None, None, None)

    def test_bad_menders(self):
        wrong = any_values() + [(), [A], (A, A), (B, A), (G,), (("b", True),), (V,), (A, V), (("x", 1),), (["b", 1],), B,
                                (A, B, ("b", 2)), (B, V)]
        for value in wrong:
            self.raises(BadItems, value, LOG, (V,), value, "p", 1)
            self.raises(BadItems, value, self.full, (V,), value, None, None)

    def test_no_worker(self):
        for value in any_values() + ["P", "p" * 9, ("p",), ["p"], "p1"]:
            if value not in ("x", "pass"):
                self.raises(NoWorker, value, LOG, (V,), (B,), value, 1)
                self.raises(NoWorker, value, self.full, (V,), (B,), value, None)

    def test_bad_most(self):
        for value in any_values() + [3, -1]:
            if isinstance(value, bool) or value not in (0, 1, 2):
                self.raises(BadMost, value, LOG, (V,), (B,), "p", value)
                self.raises(BadMost, value, self.full, (V,), (B,), "p", value)

    def test_full(self):
        self.raises(Full, self.full, self.full, (V,), (B,), "p", 1)
        workers = (("fresh", "p"), ("fresh", "q"), ("fresh", "r"))
        self.raises(Full, workers, workers, (V,), (B,), "s", 1)
        self.assertEqual(mended(SHOP, workers, (V,), (B,), "r", 0)[0], "none")
        items = tuple(told_run("p", (check, 3), "cut") for check in "abv")
        self.raises(Full, items, items, (V,), (A, B), "p", 1)
        self.raises(Full, items, items, (A, V), (B,), "p", 1)
        self.assertEqual(mended(SHOP, items, (V,), (B,), "p", 0)[0], "none")


class ShowsMendedTest(unittest.TestCase):
    def test_further_orders(self):
        found = mended(SHOP, LOG, (A, V), (B,), "p", 2)
        self.assertEqual(found[1], (A, B, V))
        early = [entry[0] for entry in found[2]]
        more = [order for order in [(B, A, V), (V, V), (V, B, V), (V, B, A), (V, B, B, A)] if order not in early]
        added = 0
        for order in more:
            for filling in (("pass",) * (len(order) - 1) + ("fail",),):
                entry = (order, filling, a_world())
                value = found[:2] + (tuple(sorted(found[2] + (entry,), key=lambda row: row[0])),)
                right = is_mended(SHOP, LOG, (A, V), (B,), "p", 2, value)
                self.assertEqual(shows_mended(SHOP, LOG, (A, V), (B,), "p", 2, value), right, order)
                added += right
        self.assertGreater(added, 0)
        # What is not safe is shown by is_safe; whether the order may stand there is another question.
        seen = []
        for order in [(V, V), (V, V, A), (V, B, V), (V, B, A), (V, B, B, A), (B, B), (B, B, B), (V, A), (V, A, B), (A, V, B),
                      (("b", 2),), (V, ("b", 2)), (("v", 2), V), (B, A, V), (A, A), (V, B, B, B)]:
            told = is_safe(SHOP, LOG, runs_of("p", order)) if len(order) < 4 else ("safe",)
            entry = (order,) + told[1:]
            if told[0] == "unsafe" and order not in early:
                value = found[:2] + (tuple(sorted(found[2] + (entry,), key=lambda row: row[0])),)
                right = is_mended(SHOP, LOG, (A, V), (B,), "p", 2, value)
                self.assertEqual(shows_mended(SHOP, LOG, (A, V), (B,), "p", 2, value), right, order)
                seen.append(right)
        self.assertGreater(seen.count(True), 1)
        self.assertGreater(seen.count(False), 5)
        # Fewer ones do not, and none twice, and only in their sequence.
        for book in [found[2][1:], found[2][::-1], found[2] + found[2][-1:], list(found[2]), ()]:
            self.assertFalse(shows_mended(SHOP, LOG, (A, V), (B,), "p", 2, found[:2] + (book,)))

    def test_lengths(self):
        for most in (0, 1):
            found = mended(SHOP, LOG, (A, V), (B,), "p", most)
            self.assertTrue(shows_mended(SHOP, LOG, (A, V), (B,), "p", most, found))
            for other in [found + ((),), found + ((), ()), found[:1], found[:1] + ((),) + found[1:], (),
                              found[:1] + ((), ()) + found[-1:], found[:1] + ((),) * 3 + found[-1:]]:
                self.assertFalse(shows_mended(SHOP, LOG, (A, V), (B,), "p", most, other))

    def test_orders_that_are_no_beginnings(self):
        found = mended(SHOP, LOG, (A, V), (B,), "p", 0)
        (first, second), world = found[1], a_world()
        for entry in [((A, B, V), ("pass", "pass", "pass"), world), ((A,), ("pass",), world), ((), (), world),
                      ((B, A, V), ("pass", "pass", "fail"), world), ((A, V, A), ("pass", "fail", "pass"), world),
                      ((A, ("v", True)), ("pass", "fail"), world), ([A, V], ("pass", "fail"), world),
                      ((A, V), ("pass", "fail"), None), ((A, V), ("pass", "pass"), world), ((A, V), ["pass", "fail"], world),
                      ((A, V), ("pass", "fail")), ((A, V), ("pass", "fail"), world, ())]:
            self.assertFalse(shows_mended(SHOP, LOG, (A, V), (B,), "p", 0, ("none", (entry, second))), entry)
        self.assertTrue(is_unsafe(SHOP, LOG, runs_of("p", (A, V)), (), ("pass", "fail"), world))
        self.assertTrue(shows_mended(SHOP, LOG, (A, V), (B,), "p", 0, ("none", (((A, V), ("pass", "fail"), world), second))))
        self.assertTrue(shows_mended(SHOP, LOG, (A, V), (B,), "p", 0, ("none", (first, second))))

    def test_one_thing_otherwise(self):
        chance = random.Random(112)
        kept = 0
        for log in some_logs(chance, 7):
            for items, menders, most in [((A, V), (B,), 1), ((V,), (A, B), 1), ((B,), (V,), 2)]:
                found = mended(SHOP, log, items, menders, "p", most)
                for other in some_otherwise(chance, found, 25):
                    right = is_mended(SHOP, log, items, menders, "p", most, other)
                    self.assertEqual(shows_mended(SHOP, log, items, menders, "p", most, other), right, other)
                    kept += right
        self.assertGreater(kept, 30)

    def test_values_of_any_kind(self):
        for value in any_values():
            for told in [value, (value,), ("none", value), ("none", (value,)), ("order", value, ()), ("order", (A, B, V), value),
                         ("order", (A, B, V), (value,)), ("none", ((value, ("pass", "fail"), a_world()),)), (value, (A, B, V), ()),
                         ("none", (((A, V), value, a_world()),)), ("none", (((A, V), ("pass", "fail"), value),))]:
                self.assertIs(shows_mended(SHOP, LOG, (A, V), (B,), "p", 1, told), False)


if __name__ == "__main__":
    unittest.main()

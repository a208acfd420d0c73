"""Point 12: spread and queue, and their looks; point 3 (d), (e)."""

import itertools
import random
import unittest

from spoilorder.errors import BadItems, BadLog, BadWorkers, Full, NoWorld
from spoilorder.plans import queue, shows_queue, shows_spread, spread
from tests.common import A, B, G, V, a_world, any_values, assert_raises, one_group, some_otherwise, two_groups
from tests.plain_plans import all_dealings, all_interleavings, all_rows, is_plain_safe, is_queue, is_spread, longest
from tests.test_filled import NO_WORLD
from tests.test_is_safe import ANEW, LOG, some_logs, told_run

SHOP = one_group()


class DocumentTest(unittest.TestCase):
    def test_document(self):
        self.assertEqual(
            [spread(SHOP, LOG, (A, B, V), ("p", "q"))[0], queue(SHOP, LOG, (A, B, V), ("p",))[:2],
             queue(SHOP, LOG, (A, B, V), ("p", "q"))[0]],
            ["rows", ("order", (A, B, V)), "none"])

    def test_documents_rows(self):
        found = spread(shop=SHOP, log=LOG, items=(A, B, V), workers=("p", "q"))
        # No rows of two and one are safe, so all stand on one worker; the other one has none.
        self.assertEqual(sorted(len(row[1]) for row in found[1]), [0, 3])
        self.assertEqual([entry[0] for entry in found[2]], [rows for rows in all_rows((A, B, V), ("p", "q")) if longest(rows) == 2])
        self.assertTrue(is_spread(SHOP, LOG, (A, B, V), ("p", "q"), (), found))
        found = queue(shop=SHOP, log=LOG, items=(A, B, V), workers=("p", "q"))
        self.assertEqual([entry[0] for entry in found[1]], sorted(itertools.permutations((A, B, V))))
        self.assertEqual(queue(SHOP, LOG, (A, B, V), ("p",))[2], ())
        self.assertEqual(queue(SHOP, LOG, (A, V), ("p",))[:2], ("none", queue(SHOP, LOG, (A, V), ("p",))[1]))


class PlansTest(unittest.TestCase):
    def some_plans(self, chance, many):
        for log in some_logs(chance, many):
            items = tuple(sorted(chance.sample([A, B, V], chance.choice((1, 2, 2, 3)))))
            workers = chance.choice((("p",), ("p", "q"), ("q",), ("p", "q")))
            loose = tuple(item for item in items if chance.random() < 0.15)
            yield log, items, workers, loose

    def test_spread_against_all_rows(self):
        chance = random.Random(101)
        seen = []
        for log, items, workers, loose in self.some_plans(chance, 45):
            found = spread(SHOP, log, items, workers, loose=loose)
            safe = [
                rows for rows in all_rows(items, workers)
                if all(is_plain_safe(SHOP, log, runs, loose) for runs in all_interleavings(rows))]
            self.assertEqual(found[0], "rows" if safe else "none")
            if safe:
                self.assertIn(found[1], safe)
                self.assertEqual(longest(found[1]), min(longest(rows) for rows in safe))
            self.assertTrue(is_spread(SHOP, log, items, workers, loose, found))
            self.assertTrue(shows_spread(SHOP, log, items, workers, found, loose=loose))
            # Any rows that are as good do, with the same book.
            for rows in safe:
                other = ("rows", rows) + found[2:]
                right = longest(rows) == longest(found[1])
                self.assertEqual(shows_spread(SHOP, log, items, workers, other, loose=loose), right)
            seen.append((found[0], len(items), len(workers)))
        self.assertGreater(len(set(seen)), 8)

    def test_queue_against_all_orders(self):
        chance = random.Random(102)
        seen = []
        for log, items, workers, loose in self.some_plans(chance, 45):
            found = queue(SHOP, log, items, workers, loose=loose)
            safe = [
                order for order in sorted(itertools.permutations(items))
                if all(is_plain_safe(SHOP, log, runs, loose) for runs in all_dealings(order, workers))]
            self.assertEqual(found[0], "order" if safe else "none")
            if safe:
                self.assertEqual(found[1], safe[0])
            self.assertTrue(is_queue(SHOP, log, items, workers, loose, found))
            self.assertTrue(shows_queue(SHOP, log, items, workers, found, loose=loose))
            for order in safe[1:]:
                self.assertFalse(shows_queue(SHOP, log, items, workers, ("order", order) + found[2:], loose=loose))
            seen.append((found[0], len(items), len(workers)))
        self.assertGreater(len(set(seen)), 8)

    def test_the_longest_row_is_as_short_as_can_be(self):
        # Both pass alone on fresh workers and on a clear store, whichever ran ahead on the other one.
        log = (told_run("p", A, "pass"), told_run("q", B, "pass")) + ANEW + (told_run("p", B, "pass"), told_run("q", A, "pass")) + ANEW
        found = spread(SHOP, log, (A, B), ("p", "q"))
        self.assertEqual((found[0], longest(found[1]), found[2]), ("rows", 1, ()))
        one = spread(SHOP, log, (A,), ("p", "q"))
        self.assertEqual((one[0], longest(one[1]), one[2]), ("rows", 1, ()))
        self.assertEqual([row[0] for row in one[1]], ["p", "q"])
        alone = spread(SHOP, log, (A, B), ("p",))
        self.assertTrue(is_spread(SHOP, log, (A, B), ("p",), (), alone))

    def test_loose(self):
        every = (A, B, V)
        found = spread(SHOP, (), every, ("p", "q"), loose=every)
        self.assertEqual((found[0], longest(found[1]), found[2]), ("rows", 2, ()))
        self.assertEqual(queue(SHOP, (), every, ("p", "q"), loose=every), ("order", every, ()))
        self.assertEqual(spread(SHOP, (), every, ("p",), loose=(A, B))[0], "none")
        self.assertEqual(len(spread(SHOP, (), every, ("p",))[1]), 6)
        self.assertEqual(len(spread(SHOP, (), every, ("p", "q"))[1]), 24)
        self.assertEqual(len(queue(SHOP, (), every, ("p", "q"))[1]), 6)

    def test_equal_calls(self):
        for call in (spread, queue):
            self.assertEqual(call(SHOP, LOG, (A, V), ("p", "q")), call(SHOP, LOG, (A, V), ("p", "q"), loose=()))


class ErrorsTest(unittest.TestCase):
    def raises(self, error, told, log, items, workers, loose=()):
        for call in (spread, queue):
            assert_raises(self, error, told, call, SHOP, log, items, workers, loose=loose)
            assert_raises(self, error, told, call, shop=SHOP, log=log, items=items, workers=workers, loose=loose)
        for call in (shows_spread, shows_queue):
            assert_raises(self, error, told, call, SHOP, log, items, workers, ("none", ()), loose=loose)

    def test_bad_log_and_no_world(self):
        for value in [value for value in any_values() if value != ()]:
            self.raises(BadLog, value, value, None, None, None)
        for log in (NO_WORLD, NO_WORLD + (told_run("p", A), told_run("p", A))):
            self.raises(NoWorld, log, log, None, None, None)
            self.raises(NoWorld, log, log, (A,), ("p",))

    def test_bad_items(self):
        wrong = any_values() + [
            (), [A], (A, A), (B, A), (A, ("a", 2)), (G,), (("a", True),), (A, B, V, ("w", 1)), (("x", 1),), (["a", 1],), A, (A, None),
            (A, B, V, V)]
        full = LOG + (told_run("p", A), told_run("p", A))
        four = (A, B, V, ("w", 1))
        for call in (spread, queue):
            assert_raises(self, BadItems, four, call, two_groups(), (), four, ("p",), loose=four)
            self.assertEqual(call(two_groups(), (), four[1:], ("p",), loose=four[1:])[0], "rows" if call == spread else "order")
        for value in wrong:
            for log, workers, loose in [(LOG, ("p",), ()), (LOG, None, None), (full, (), (A,))]:
                self.raises(BadItems, value, log, value, workers, loose)

    def test_bad_workers(self):
        wrong = any_values() + [(), ["p"], ("q", "p"), ("p", "p"), ("p", "q", "r"), ("P",), ("",), ("p", None), "p", (["p"],)]
        wrong = [value for value in wrong if value != ("x",)]
        full = LOG + (told_run("p", A), told_run("p", A))
        for value in wrong:
            for log, loose in [(LOG, ()), (LOG, None), (full, (V, A))]:
                self.raises(BadWorkers, value, log, (A, V), value, loose)

    def test_bad_loose(self):
        wrong = [value for value in any_values() if value != ()]
        wrong += [(B,), (V, A), (A, A), [A], A, (("a", True),), (("a", 2),), (A, B), (A, B, V), (G,), (A, [1])]
        full = LOG + (told_run("p", A), told_run("p", A))
        for value in wrong:
            for log in (LOG, full):
                self.raises(BadItems, value, log, (A, V), ("p",), value)

    def test_full(self):
        two = (told_run("p", A), told_run("p", A))
        self.raises(Full, two, two, (A,), ("p",))
        self.assertEqual(queue(SHOP, two[:1], (A,), ("p",), loose=(A,)), ("order", (A,), ()))
        workers = (("fresh", "p"), ("fresh", "q"))
        self.raises(Full, workers, workers, (A,), ("r", "s"))
        self.assertEqual(queue(SHOP, workers, (A,), ("p", "r"), loose=(A,)), ("order", (A,), ()))
        items = tuple(told_run("p", (check, 3), "cut") for check in "abv")
        self.raises(Full, items, items, (A, B, V), ("p",))
        self.assertEqual(queue(SHOP, items, (A, B, ("v", 3)), ("p",), loose=(A, B, ("v", 3)))[0], "order")


class ShowsTest(unittest.TestCase):
    def test_one_thing_otherwise(self):
        chance = random.Random(103)
        kept = 0
        for log in some_logs(chance, 8):
            for items, workers in [((A, V), ("p", "q")), ((V,), ("p",)), ((A, B), ("q",))]:
                for call, shows, right_one in [(spread, shows_spread, is_spread), (queue, shows_queue, is_queue)]:
                    found = call(SHOP, log, items, workers)
                    for other in some_otherwise(chance, found, 25):
                        right = right_one(SHOP, log, items, workers, (), other)
                        self.assertEqual(shows(SHOP, log, items, workers, other), right, other)
                        kept += right
        self.assertGreater(kept, 30)

    def test_any_runs_in_the_book(self):
        found = queue(SHOP, LOG, (A, V), ("p", "q"))
        self.assertEqual(found[0], "none")
        runs = (told_run("p", A), told_run("p", V))
        entry = ((A, V), runs, ("pass", "fail"), a_world())
        self.assertTrue(is_queue(SHOP, LOG, (A, V), ("p", "q"), (), ("none", (entry, found[1][1]))))
        self.assertTrue(shows_queue(SHOP, LOG, (A, V), ("p", "q"), ("none", (entry, found[1][1]))))
        for other in [((V, A),) + entry[1:], entry[:1] + (runs[::-1],) + entry[2:], entry[:2] + (("pass", "pass"), a_world()),
                      entry[:1] + ((told_run("p", A), told_run("r", V)),) + entry[2:], entry[:3], entry + ((),), list(entry),
                      entry[:1] + ((told_run("p", A, "pass"), told_run("p", V)),) + entry[2:], (((("a", True), V)),) + entry[1:],
                      entry[:1] + ((told_run("p", ("a", True)), told_run("p", V)),) + entry[2:], entry[:3] + (None,),
                      entry[:1] + (list(runs),) + entry[2:], entry[:1] + (runs + runs[:1],) + entry[2:]]:
            self.assertFalse(shows_queue(SHOP, LOG, (A, V), ("p", "q"), ("none", (other, found[1][1]))), other)
        for book in [found[1][1:], found[1][:1], found[1][::-1], found[1] + found[1][:1], list(found[1]), ()]:
            self.assertFalse(shows_queue(SHOP, LOG, (A, V), ("p", "q"), ("none", book)))

    def test_plans_that_are_not_safe(self):
        # The book is right for what comes ahead of them.
        found = queue(SHOP, LOG, (A, V), ("p", "q"))
        self.assertEqual([entry[0] for entry in found[1]], [(A, V), (V, A)])
        for order, book in [((A, V), ()), ((V, A), found[1][:1])]:
            self.assertFalse(is_queue(SHOP, LOG, (A, V), ("p", "q"), (), ("order", order, book)))
            self.assertFalse(shows_queue(SHOP, LOG, (A, V), ("p", "q"), ("order", order, book)))
        found = spread(SHOP, LOG, (A, V), ("p", "q"))
        self.assertEqual(found[0], "none")
        short = tuple(entry for entry in found[1] if longest(entry[0]) == 1)
        for entry in found[1]:
            book = () if longest(entry[0]) == 1 else short
            self.assertFalse(is_spread(SHOP, LOG, (A, V), ("p", "q"), (), ("rows", entry[0], book)))
            self.assertFalse(shows_spread(SHOP, LOG, (A, V), ("p", "q"), ("rows", entry[0], book)))

    def test_lengths(self):
        for call, shows in [(spread, shows_spread), (queue, shows_queue)]:
            for items in [(V,), (A, V)]:
                found = call(SHOP, LOG, items, ("p", "q"))
                self.assertTrue(shows(SHOP, LOG, items, ("p", "q"), found))
                for other in [found + ((),), found + ((), ()), found[:1], found[:1] + ((),) + found[1:], (),
                              found[:1] + ((), ()) + found[-1:], found[:1] + ((),) * 3 + found[-1:]]:
                    self.assertFalse(shows(SHOP, LOG, items, ("p", "q"), other))

    def test_other_plans(self):
        found = spread(SHOP, LOG, (A, B, V), ("p", "q"))
        for rows in [(("p", (A, B, V)), ("q", ())), (("p", ()), ("q", (A, B, V)))]:
            self.assertTrue(shows_spread(SHOP, LOG, (A, B, V), ("p", "q"), ("rows", rows, found[2])))
        for rows in [(("p", (A, B, V)),), (("q", ()), ("p", (A, B, V))), (("p", (A, V, B)), ("q", ())), (("p", (A, B)), ("q", (V,))),
                     (("p", (A, B, V)), ("q", (V,))), (("p", (A, B)), ("q", ())), [("p", (A, B, V)), ("q", ())],
                     (["p", (A, B, V)], ("q", ())), (("p", [A, B, V]), ("q", ())), (("p", (A, B, ("v", True))), ("q", ())), None, ()]:
            self.assertFalse(shows_spread(SHOP, LOG, (A, B, V), ("p", "q"), ("rows", rows, found[2])), rows)
        self.assertFalse(shows_spread(SHOP, LOG, (A, B, V), ("p", "q"), ("none", found[2])))
        self.assertFalse(shows_spread(SHOP, LOG, (A, B, V), ("p", "q"), ("order",) + found[1:]))
        order = queue(SHOP, LOG, (A, B, V), ("p",))
        self.assertTrue(shows_queue(SHOP, LOG, (A, B, V), ("p",), order))
        self.assertFalse(shows_queue(SHOP, LOG, (A, B, V), ("p",), ("rows",) + order[1:]))
        self.assertFalse(shows_queue(SHOP, LOG, (A, B, V), ("p",), ("order", (A, B, ("v", True)), ())))
        self.assertFalse(shows_queue(SHOP, LOG, (A, B, V), ("p",), ("none", ())))

    def test_values_of_any_kind(self):
        for value in any_values():
            for told in [value, (value,), ("none", value), ("none", (value,)), ("rows", value, ()), ("order", value, ()),
                         ("rows", (("p", (A, V)),), value), ("order", (A, V), value), ("none", (((A, V), value, value, value),)),
                         ("none", ((value, (told_run("p", A), told_run("p", V)), ("pass", "fail"), a_world()),) * 2)]:
                self.assertIs(shows_spread(SHOP, LOG, (A, V), ("p",), told), False)
                self.assertIs(shows_queue(SHOP, LOG, (A, V), ("p",), told), False)


if __name__ == "__main__":
    unittest.main()

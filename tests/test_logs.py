"""Point 5: what is a log, and its fillings."""

import itertools
import random
import unittest

from spoilorder.errors import BadLog
from spoilorder.logs import fillings, is_log, letters, samples
from tests.common import A, B, V, any_values, assert_raises, one_group, two_groups
from tests.plain import plain_fillings, random_events

SHOP = two_groups()
W = ("w", 1)


def run(worker, item, outcome):
    return ("run", worker, item, outcome)


class LogCase(unittest.TestCase):
    def right(self, log, shop=SHOP):
        self.assertIs(is_log(shop, log), True, log)
        self.assertIs(is_log(shop=shop, value=log), True, log)

    def wrong(self, log, shop=SHOP):
        self.assertIs(is_log(shop, log), False, log)


class FormsTest(LogCase):
    def test_right_events(self):
        self.right(())
        for event in [("fresh", "p"), ("clear",), ("gap", "p"), ("gap", "abcdefgh"), ("fresh", "a"), ("fresh", "g")]:
            self.right((event,))
        for outcome in ("pass", "fail", "cut", "skip", None):
            self.right((run("p", A, outcome),))
            self.right((run("fresh", ("w", 9), outcome),))

    def test_wrong_events(self):
        for event in [
            ("fresh",), ("fresh", "p", "q"), ("fresh", ""), ("fresh", "P"), ("fresh", "p1"), ("fresh", "abcdefghi"),
            ("fresh", None), ("fresh", ("p",)), ("fresh", ["p"]), ("fresh", {}), ("fresh", 1), ["fresh", "p"],
            ("clear", "p"), ("clear", None), ["clear"], "clear", ("Clear",), (("clear",),), ("gap",), ("gap", "p", 0),
            ("gap", 0), ("gap", True), ["gap", "p"], ("gap", ["p"]), (), (None,), ("cut", "p"), ("close", "g"),
            run("P", A, "pass"), run("", A, "pass"), run(None, A, "pass"), run(["p"], A, "pass"), run(0, A, "pass"),
            run("p", "a", "pass"), run("p", ("g", 0), "pass"), run("p", ("a", 0), "pass"), run("p", ("a", 10), "pass"),
            run("p", ("a", True), "pass"), run("p", ["a", 1], "pass"), run("p", ("x", 1), "pass"),
            run("p", None, "pass"), run("p", {}, "pass"), run("p", ("g", 1), "pass"), run("p", (["a"], 1), "pass"),
            run("p", A, "passed"), run("p", A, ""), run("p", A, True), run("p", A, False), run("p", A, 0),
            run("p", A, ("pass",)), run("p", A, ["pass"]), run("p", A, {}), run("p", A, "close"), run("p", A, "gap"),
            ("run", "p", A), ("run", "p", A, "pass", None), ["run", "p", A, "pass"], ("run",), ("Run", "p", A, "pass"),
            (["run"], "p", A, "pass"), ({}, "p", A, "pass"), (None, "p", A, "pass"), (True, "p"),
        ]:
            self.wrong((event,))
            self.wrong((("clear",), event))
            self.wrong((event, ("clear",)))

    def test_any_value(self):
        for value in any_values():
            if value != ():
                self.wrong(value)
            self.wrong((value,))
            self.wrong(((value,),))
            self.wrong((run("p", value, "pass"),))
            self.wrong((run("p", A, value),)) if value not in ("pass", None) else None
            self.wrong((run(value, A, "pass"),)) if value not in ("x", "pass") else None
            self.wrong((("fresh", value),)) if value not in ("x", "pass") else None
            self.wrong(((value, "p"),))

    def test_lists_are_no_logs(self):
        self.wrong([])
        self.wrong([("clear",)])
        self.wrong({})
        self.wrong(("run", "p", A, "pass"))
        self.wrong(("clear",))

    def test_of_this_shop(self):
        self.right((run("p", W, "pass"),))
        self.wrong((run("p", W, "pass"),), one_group())


class BoundsTest(LogCase):
    def test_events(self):
        self.right((("clear",),) * 30)
        self.wrong((("clear",),) * 31)
        self.right((run("p", A, "pass"),) * 30)
        self.wrong((run("p", A, "pass"),) * 31)

    def test_workers(self):
        for make in (lambda w: ("fresh", w), lambda w: ("gap", w), lambda w: run(w, A, "pass")):
            self.right(tuple(make(worker) for worker in "pqr") * 2)
            self.wrong(tuple(make(worker) for worker in "pqrs"))
            self.wrong((("fresh", "p"), ("gap", "q"), run("r", A, "pass"), make("s")))
            self.wrong((make("s"), ("fresh", "p"), ("gap", "q"), run("r", A, "pass")))

    def test_workers_named_like_events(self):
        names = ("clear", "run", "gap", "fresh")
        self.right(tuple(("gap", name) for name in names[:3]))
        self.wrong(tuple(("gap", name) for name in names))
        self.wrong(tuple(("fresh", name) for name in names))

    def test_items(self):
        for outcome in ("pass", "fail", "cut"):
            self.right(tuple(run("p", ("a", edition), outcome) for edition in range(1, 6)) * 2)
            self.wrong(tuple(run("p", ("a", edition), outcome) for edition in range(1, 7)))
        five = (A, B, V, W, ("w", 2))
        self.right(tuple(run("p", item, "skip") for item in five))
        self.wrong(tuple(run("p", item, "skip") for item in five + (("a", 2),)))
        self.right(tuple(run("p", item, "pass") for item in five))
        self.wrong(tuple(run("p", item, "pass") for item in five + (("b", 9),)))

    def test_untold(self):
        self.right((run("p", A, None),) * 3)
        self.wrong((run("p", A, None),) * 4)
        self.right((run("p", A, None), run("q", A, None), ("clear",), run("p", W, None), run("q", W, "pass")))
        self.wrong((run("p", A, None), run("q", A, None), ("fresh", "p"), run("p", W, None), run("q", W, None)))


class SkipsTest(LogCase):
    def test_told_skip(self):
        self.right((run("p", A, "skip"), run("p", A, "skip"), run("p", V, "skip"), run("p", A, "pass")))
        for outcome in ("pass", "fail", "cut"):
            ahead = run("p", B, outcome)
            self.wrong((ahead, run("p", A, "skip")))
            self.right((ahead, run("q", A, "skip")))
            self.right((ahead, run("p", V, "skip")))
            self.right((ahead, run("p", V, "skip"), run("p", A, "skip")))
            self.right((ahead, run("p", V, "pass"), run("p", A, "skip")))
            self.wrong((ahead, run("p", A, "pass"), run("p", A, "skip")))
            self.right((ahead, ("fresh", "p"), run("p", A, "skip")))
            self.right((ahead, ("gap", "p"), run("p", A, "skip")))
            self.wrong((ahead, ("clear",), run("p", A, "skip")))
            self.wrong((ahead, ("fresh", "q"), run("p", A, "skip")))
            self.wrong((ahead, ("gap", "q"), run("p", A, "skip")))

    def test_skip_that_hangs_on_an_outcome_not_told(self):
        log = (run("p", A, None), run("p", B, "skip"))
        self.right(log)
        self.assertEqual(fillings(SHOP, log), (("skip",),))
        self.wrong((run("p", A, None), run("p", B, None), run("p", A, "pass"), run("p", B, "skip")))
        self.wrong((run("p", A, "pass"), run("p", A, None), run("p", B, "skip")))
        log = (run("p", V, "pass"), run("p", A, None), run("p", B, None), run("p", A, "skip"))
        self.assertEqual(fillings(SHOP, log), (("skip", "skip"),))

    def test_filled_in_skip(self):
        log = (run("p", A, None), run("p", B, None))
        self.assertEqual(fillings(SHOP, log), (
            ("fail", "fail"), ("fail", "pass"), ("pass", "fail"), ("pass", "pass"),
            ("skip", "fail"), ("skip", "pass"), ("skip", "skip")))
        self.assertEqual(len(fillings(SHOP, (run("p", A, None), run("p", V, None)))), 9)
        self.assertEqual(len(fillings(SHOP, (run("p", A, None), run("q", B, None)))), 9)
        self.assertEqual(fillings(SHOP, (run("p", A, "skip"), run("p", A, None))), (("fail",), ("pass",), ("skip",)))
        self.assertEqual(fillings(SHOP, (run("p", A, "cut"), run("p", A, None))), (("fail",), ("pass",)))
        self.assertEqual(len(fillings(SHOP, (run("p", A, "cut"), ("gap", "p"), run("p", A, None)))), 3)


class FillingsTest(unittest.TestCase):
    def test_document(self):
        shop = one_group()
        log = (run("p", A, "pass"), run("q", V, "fail"), run("q", A, None))
        found = [fillings(shop, log), letters(shop, log[:1], ()), samples(shop, log, ("pass",), V)]
        self.assertEqual(found, [
            (("fail",), ("pass",)),
            ((0, "p", ("pass", ("g", 0))), (0, "p", ("pass", ("a", 1)))),
            ((1, "fail", (("pass", ("g", 0)),), (("pass", ("g", 0)), ("pass", ("a", 1)), ("pass", ("g", 0)))),),
        ])

    def test_without_none(self):
        self.assertEqual(fillings(SHOP, ()), ((),))
        self.assertEqual(fillings(shop=SHOP, log=(run("p", A, "pass"), ("gap", "p"))), ((),))

    def test_bad_log(self):
        wrong = [value for value in any_values() if value != ()]
        for value in wrong + [[], (("fresh",),), (run("p", A, "pass"), run("p", B, "skip")), (run("p", A, None),) * 4]:
            assert_raises(self, BadLog, value, fillings, SHOP, value)
            assert_raises(self, BadLog, value, fillings, shop=SHOP, log=value)

    def test_as_told(self):
        # All that the section says, written out once more in the plainest way.
        chance = random.Random(5)
        right = 0
        for _ in range(1500):
            events = random_events(chance, SHOP, chance.randrange(0, 9))
            found = plain_fillings(SHOP, events)
            self.assertIs(is_log(SHOP, events), len(found) > 0)
            if found:
                right += 1
                self.assertEqual(fillings(SHOP, events), tuple(found))
                self.assertEqual(fillings(SHOP, events), fillings(SHOP, events))
        self.assertGreater(right, 300)

    def test_all_short_logs(self):
        shop = one_group()
        events = [("fresh", "p"), ("clear",), ("gap", "p")]
        events += [run("p", item, outcome) for item in (A, B) for outcome in ("pass", "skip", "cut", None)]
        for log in itertools.product(events, repeat=3):
            found = plain_fillings(shop, log)
            self.assertIs(is_log(shop, log), len(found) > 0)
            if found:
                self.assertEqual(fillings(shop, log), tuple(found))


if __name__ == "__main__":
    unittest.main()

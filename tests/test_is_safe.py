"""Point 12: is_safe and shows_safe; point 3 (d)."""

import random
import unittest

from spoilorder.errors import BadItems, BadLog, BadRuns, Full, NoWorld
from spoilorder.logs import is_log
from spoilorder.plans import is_safe, shows_safe
from spoilorder.striking import possible
from spoilorder.worlds import World
from tests.common import A, B, G, V, a_world, any_values, assert_raises, one_group, some_otherwise
from tests.plain import plain_fillings, random_events
from tests.plain_plans import is_plain_safe, is_unsafe, runs_of, unsafe_fillings
from tests.plain_striking import is_world
from tests.test_filled import NO_WORLD, clashing_logs

SHOP = one_group()
ANEW = (("clear",), ("fresh", "p"), ("fresh", "q"))
# The log of the document's example: a spoils v near or far, b mends that.
LOG = (("run", "p", A, "pass"), ("run", "p", V, "fail")) + ANEW + (("run", "p", V, "pass"),) + ANEW
LOG = LOG + (("run", "p", A, "pass"), ("run", "p", B, "pass"), ("run", "p", V, "pass")) + ANEW
LOG = LOG + (("run", "p", B, "pass"), ("run", "p", A, "pass"), ("run", "p", V, "fail")) + ANEW


def told_run(worker, item, outcome=None):
    return ("run", worker, item, outcome)


def telling_logs(chance, many):
    """Logs by which some things are sure: turns that were run more than once, by a world; with one None at most."""
    found = []
    while len(found) < many:
        kinds = [(("pass", A), "spoils"), (("pass", B), "mends"), (("pass", V), "spoils"), (("fail", V), "mends")]
        tempers = [(thing, "near", "pass", ()) for thing in (A, B, G)]
        some = tuple(sorted(chance.sample(kinds, chance.randrange(1, 4))))
        world = World(SHOP, tuple(tempers) + ((V, chance.choice(("near", "far")), "pass", some),))
        state, log = world.start(2), []
        for _ in range(chance.randrange(2, 6)):
            for _ in range(chance.randrange(1, 4)):
                number, item = chance.choice((0, 0, 0, 1)), chance.choice((A, B, V, V))
                outcome, state = world.after(state, number, item)
                log.append(("run", "pq"[number], item, outcome))
            if chance.random() < 0.9:
                log += [("clear",), ("fresh", "p"), ("fresh", "q")]
                state = world.start(2)
        place = chance.randrange(len(log))
        if chance.random() < 0.4 and log[place][0] == "run":
            log[place] = log[place][:3] + (None,)
        if len(log) <= 26:
            found.append(tuple(log))
    return found


def some_logs(chance, many):
    """Telling ones, and those that came out at random, with at most one None, and with a world."""
    found = telling_logs(chance, many)
    for log in clashing_logs(chance, 3 * many, SHOP, 1):
        if possible(SHOP, log) and len(found) < 2 * many:
            found.append(log)
    return found


class IsSafeTest(unittest.TestCase):
    def test_documents_log(self):
        for runs, loose, word in [
                (runs_of("p", (V,)), (), "safe"), (runs_of("p", (A, V)), (), "unsafe"), (runs_of("p", (A, B, V)), (), "safe"),
                (runs_of("q", (A, B, V)), (), "safe"), (runs_of("p", (B, A, V)), (), "unsafe"),
                (runs_of("p", (A,)) + runs_of("q", (V,)), (), "unsafe"), (runs_of("p", (A, V)), (V,), "safe"),
                (runs_of("p", (A, V)), (A,), "unsafe"), (runs_of("p", (A, V)), (A, V), "safe"), (runs_of("p", (V, V)), (), "unsafe")]:
            found = is_safe(SHOP, LOG, runs, loose=loose)
            self.assertEqual(found[0], word, (runs, loose))
            self.assertEqual(is_plain_safe(SHOP, LOG, runs, loose), word == "safe")
            self.assertTrue(shows_safe(SHOP, LOG, runs, found, loose=loose))
            self.assertEqual(is_safe(shop=SHOP, log=LOG, runs=runs, loose=loose)[0], word)
        self.assertEqual(is_safe(SHOP, LOG, runs_of("p", (V,))), ("safe",))

    def test_nothing_is_known(self):
        found = is_safe(SHOP, (), runs_of("p", (A,)))
        self.assertEqual(found[0], "unsafe")
        self.assertTrue(is_unsafe(SHOP, (), runs_of("p", (A,)), (), found[1], found[2]))
        self.assertEqual(is_safe(SHOP, (), runs_of("p", (A,)), loose=(A,)), ("safe",))

    def test_skipped_is_not_passed(self):
        log = (told_run("p", A, "skip"), ("fresh", "p"), ("clear",))
        found = is_safe(SHOP, log, runs_of("p", (A,)))
        self.assertEqual(found[:2], ("unsafe", ("skip",)))
        self.assertTrue(shows_safe(SHOP, log, runs_of("p", (A,)), found))
        self.assertEqual(is_safe(SHOP, log, runs_of("p", (A,)), loose=(A,)), ("safe",))

    def test_what_comes_behind_a_run_that_does_not_pass(self):
        # The filling tells all runs, also those behind the one that does not pass.
        runs = runs_of("p", (A, V, B))
        found = is_safe(SHOP, LOG, runs)
        self.assertEqual((found[0], len(found[1])), ("unsafe", 3))
        self.assertIn(found[1], unsafe_fillings(SHOP, LOG, runs, ()))
        self.assertTrue(is_world(SHOP, LOG + runs, found[1], found[2]))

    def test_one_untold(self):
        log = LOG[:10] + (told_run("p", A),)
        for runs in [runs_of("p", (V,)), runs_of("q", (V,)), runs_of("q", (B,))]:
            found = is_safe(SHOP, log, runs)
            self.assertEqual(found[0] == "safe", is_plain_safe(SHOP, log, runs))
            if found[0] == "unsafe":
                self.assertEqual(len(found[1]), 2)
            self.assertTrue(shows_safe(SHOP, log, runs, found))

    def test_against_all_fillings(self):
        chance = random.Random(91)
        seen = []
        for log in some_logs(chance, 60):
            for _ in range(3):
                many = chance.choice((1, 2, 3))
                runs = tuple(told_run(chance.choice("pq"), chance.choice((A, B, V))) for _ in range(many))
                items = sorted({event[2] for event in runs})
                loose = tuple(item for item in items if chance.random() < 0.2)
                found = is_safe(SHOP, log, runs, loose=loose)
                wrong = unsafe_fillings(SHOP, log, runs, loose)
                self.assertEqual(found[0], "unsafe" if wrong else "safe")
                if wrong:
                    self.assertIn(found[1], wrong)
                    self.assertTrue(is_unsafe(SHOP, log, runs, loose, found[1], found[2]))
                self.assertTrue(shows_safe(SHOP, log, runs, found, loose=loose))
                self.assertEqual(is_safe(SHOP, log, runs, loose=loose), found)
                seen.append((found[0], many))
        for kind in [(word, many) for word in ("safe", "unsafe") for many in (1, 2, 3)]:
            self.assertGreater(seen.count(kind), 5)

    def test_thirty_events_and_more(self):
        log = LOG + (("clear",),) * (30 - len(LOG))
        self.assertEqual(len(log), 30)
        for order in [(A, B, V), (B, A, V)]:
            runs = runs_of("p", order)
            found = is_safe(SHOP, log, runs)
            self.assertEqual(found[0], "safe" if order[0] == A else "unsafe")
            self.assertTrue(shows_safe(SHOP, log, runs, found))
            self.assertFalse(is_log(SHOP, log + runs))


class ErrorsTest(unittest.TestCase):
    def raises(self, error, told, log, runs, loose=()):
        assert_raises(self, error, told, is_safe, SHOP, log, runs, loose=loose)
        assert_raises(self, error, told, shows_safe, SHOP, log, runs, ("safe",), loose=loose)
        assert_raises(self, error, told, shows_safe, shop=SHOP, log=log, runs=runs, value=None, loose=loose)

    def test_bad_log_and_no_world(self):
        for value in [value for value in any_values() if value != ()]:
            self.raises(BadLog, value, value, None, None)
        for log in (NO_WORLD, NO_WORLD + (told_run("p", A), told_run("p", B))):
            self.raises(NoWorld, log, log, None, None)
            self.raises(NoWorld, log, log, runs_of("p", (A,)))

    def test_bad_runs(self):
        wrong = any_values() + [runs_of("p", (A,) * 4), list(runs_of("p", (A,))), (told_run("p", A, "pass"),), (told_run("p", G),),
                                (("fresh", "p"),), runs_of("p", (A,)) + (("clear",),), runs_of("P", (A,)), told_run("p", A),
                                (list(told_run("p", A)),), (told_run("p", ("a", True)),), (told_run("p", A)[:3],), (("gap", "p"),),
                                (told_run("p", ("x", 1)),), (told_run("p", A, "skip"),), (told_run("p", A, False),)]
        for value in wrong:
            for log, loose in [(LOG, ()), (LOG, None), (LOG + (told_run("p", A), told_run("p", A)), ())]:
                self.raises(BadRuns, value, log, value, loose)
        for value in any_values():
            for runs in [(value,), (told_run(value, A),), (told_run("p", value),), (told_run("p", A, value),)]:
                # Two of them are names, and None is right as an outcome.
                if value not in ("x", "pass") and runs != (told_run("p", A),):
                    self.raises(BadRuns, runs, LOG, runs)

    def test_bad_loose(self):
        runs = runs_of("p", (A, B, A))
        wrong = [value for value in any_values() if value != ()]
        wrong += [(V,), (A, V), (B, A), (A, A), [A], A, (("a", True),), (("a", 2),), (A, B, V), (G,), (A, [1]), None]
        for value in wrong:
            for log in (LOG, LOG + (told_run("p", A), told_run("p", A))):
                self.raises(BadItems, value, log, runs, value)
        for value in [(), (A,), (B,), (A, B)]:
            self.assertIn(is_safe(SHOP, LOG, runs, loose=value)[0], ("safe", "unsafe"))

    def test_full(self):
        two = (told_run("p", A), told_run("p", A))
        self.raises(Full, two, two, runs_of("p", (A,)))
        three = (("fresh", "p"), ("fresh", "q"), ("fresh", "r"))
        self.raises(Full, three, three, runs_of("s", (A,)))
        self.assertEqual(is_safe(SHOP, three, runs_of("r", (A,)))[0], "unsafe")
        one = (("fresh", "p"),)
        self.raises(Full, one, one, tuple(told_run(worker, A) for worker in "qrs"))
        self.assertEqual(is_safe(SHOP, one, tuple(told_run(worker, A) for worker in "prs"), loose=(A,)), ("safe",))
        items = tuple(told_run("p", (check, 3), "cut") for check in "abv") + (told_run("p", ("a", 4), "cut"),)
        self.raises(Full, items, items, runs_of("p", (A, B)))
        self.assertEqual(is_safe(SHOP, items, runs_of("p", (A, ("b", 3))))[0], "unsafe")
        five = items + (told_run("p", A, "cut"),)
        self.raises(Full, five, five, runs_of("p", (B,)))
        self.assertEqual(is_safe(SHOP, five, runs_of("p", (A,)))[0], "unsafe")


class ShowsSafeTest(unittest.TestCase):
    def test_any_filling_and_world(self):
        chance = random.Random(92)
        many = 0
        for log in some_logs(chance, 25):
            runs = tuple(told_run(chance.choice("pq"), chance.choice((A, B, V))) for _ in range(2))
            for filling in unsafe_fillings(SHOP, log, runs, ()):
                told = is_safe(SHOP, log, runs)
                self.assertEqual(told[0], "unsafe")
                for other in plain_fillings(SHOP, log + runs):
                    right = is_unsafe(SHOP, log, runs, (), other, told[2])
                    self.assertEqual(shows_safe(SHOP, log, runs, ("unsafe", other, told[2])), right)
                    many += right
                self.assertFalse(shows_safe(SHOP, log, runs, ("safe",)))
                self.assertIn(filling, plain_fillings(SHOP, log + runs))
        self.assertGreater(many, 20)

    def test_other_worlds(self):
        runs = runs_of("p", (A, V))
        world = a_world()
        self.assertTrue(is_unsafe(SHOP, LOG, runs, (), ("pass", "fail"), world))
        self.assertTrue(shows_safe(SHOP, LOG, runs, ("unsafe", ("pass", "fail"), world)))
        for other in [World(SHOP, world.tempers[:-1]), World(SHOP, ()), None, world.tempers,
                      World(SHOP, world.tempers[:-1] + ((V, "near", "pass", ()),))]:
            self.assertFalse(shows_safe(SHOP, LOG, runs, ("unsafe", ("pass", "fail"), other)))
        for filling in [("pass", "pass"), ("fail", "fail"), ("pass",), (), ["pass", "fail"], ("pass", "skip"), None, ("pass", "fail", "pass")]:
            self.assertFalse(shows_safe(SHOP, LOG, runs, ("unsafe", filling, world)))
        self.assertFalse(shows_safe(SHOP, LOG, runs, ("unsafe", ("pass", "fail"), world), loose=(V,)))
        self.assertTrue(shows_safe(SHOP, LOG, runs, ("unsafe", ("pass", "fail"), world), loose=(A,)))

    def test_one_thing_otherwise(self):
        chance = random.Random(93)
        kept = 0
        for log in some_logs(chance, 15):
            runs = tuple(told_run(chance.choice("pq"), chance.choice((A, B, V))) for _ in range(2))
            found = is_safe(SHOP, log, runs)
            for other in some_otherwise(chance, found, 60) + [("safe",), ("unsafe",)]:
                right = other == ("safe",) and is_plain_safe(SHOP, log, runs)
                if isinstance(other, tuple) and len(other) == 3 and other[0] == "unsafe":
                    right = is_unsafe(SHOP, log, runs, (), other[1], other[2])
                self.assertEqual(shows_safe(SHOP, log, runs, other), right, other)
                kept += right
        self.assertGreater(kept, 30)

    def test_values_of_any_kind(self):
        for value in any_values():
            for told in [value, (value,), ("unsafe", value), ("unsafe", value, a_world()), ("unsafe", ("pass", "fail"), value),
                         ("safe", value), (value, ("pass", "fail"), a_world())]:
                right = told == ("unsafe", ("pass", "fail"), a_world())
                self.assertIs(shows_safe(SHOP, LOG, runs_of("p", (A, V)), told), right)
                self.assertIs(shows_safe(SHOP, LOG, runs_of("p", (V,)), told), False)


class RandomLogsTest(unittest.TestCase):
    def test_cuts_gaps_and_skips(self):
        chance = random.Random(94)
        many = 0
        while many < 60:
            log = random_events(chance, SHOP, chance.randrange(1, 9), 1)
            log = tuple(event for event in log if event[0] != "run" or event[2][1] == 1)
            if not is_log(SHOP, log) or not possible(SHOP, log) or len({event[1] for event in log if len(event) > 1}) > 2:
                continue
            runs = tuple(told_run(chance.choice("pq"), chance.choice((A, V))) for _ in range(2))
            if len({event[1] for event in log + runs if len(event) > 1}) > 3:
                continue
            found = is_safe(SHOP, log, runs)
            self.assertEqual(found[0] == "safe", is_plain_safe(SHOP, log, runs))
            self.assertTrue(shows_safe(SHOP, log, runs, found))
            many += 1


if __name__ == "__main__":
    unittest.main()

"""Point 9: filled, possible, forecast, shows_filled; point 3 (a), (b), (f)."""

import random
import unittest

from spoilorder.errors import BadLog
from spoilorder.logs import is_log
from spoilorder.looks import shows_filled
from spoilorder.shops import Shop
from spoilorder.striking import filled, forecast, possible
from spoilorder.worlds import World
from tests.common import A, B, G, H, V, a_world, any_values, assert_raises, one_group, some_otherwise, two_groups
from tests.plain import plain_fillings, plain_samples, random_events
from tests.plain_striking import has_temper, is_clash, is_filled, log_samples, plain_possible, things_of

SHOP = one_group()
LOG = (("run", "p", A, "pass"), ("run", "q", V, "fail"), ("clear",), ("fresh", "p"), ("fresh", "q"), ("run", "q", V, "pass"))
# Two fresh runs of v on a clear store that come out unlike.
NO_WORLD = (("run", "p", V, "pass"), ("clear",), ("fresh", "p"), ("run", "p", V, "fail"))


def small_logs(chance, many, shop, longest=6, untold=2):
    found = []
    while len(found) < many:
        events = random_events(chance, shop, chance.randrange(longest + 1), untold)
        # Samples of one thing come up where the same few things run on the same workers.
        events = tuple(event for event in events if event[0] != "run" or event[2][1] != 9)
        if is_log(shop, events):
            found.append(events)
    return found


def clashing_logs(chance, many, shop, untold=2):
    """Logs of a few short turns on fresh workers and a clear store, which come out at random."""
    found = []
    while len(found) < many:
        items = chance.sample([A, V, B], 2)
        events = []
        for _ in range(chance.randrange(2, 5)):
            if chance.random() < 0.8:
                events += [("fresh", "p"), ("clear",)]
            for _ in range(chance.randrange(1, 4)):
                worker = chance.choice("pppq")
                events.append(("run", worker, chance.choice(items), chance.choice(("pass", "pass", "pass", "fail", "cut"))))
        for _ in range(chance.randrange(untold + 1)):
            place = chance.randrange(len(events))
            if events[place][0] == "run":
                events[place] = events[place][:3] + (None,)
        if is_log(shop, tuple(events)):
            found.append(tuple(events))
    return found


class FilledTest(unittest.TestCase):
    def test_document(self):
        self.assertEqual(forecast(SHOP, LOG + (("run", "p", V, None),)), (("fail", "pass", "skip"),))
        self.assertEqual(forecast(SHOP, LOG + (("run", "p", A, "pass"), ("run", "q", V, None))), (("fail",),))

    def test_empty_log(self):
        found = filled(SHOP, ())
        self.assertEqual(found, (((), ("world", World(SHOP, ()))),))
        self.assertEqual((possible(SHOP, ()), forecast(SHOP, ())), (((),), ()))
        self.assertTrue(shows_filled(SHOP, (), found))

    def test_without_a_world(self):
        found = filled(shop=SHOP, log=NO_WORLD)
        self.assertEqual(found, (((), ("clash", V, (
            ("near", ((("pass", G), 0, 3),), (0, 3)), ("far", ((("pass", G), 0, 3),), (0, 3))))),))
        self.assertEqual((possible(shop=SHOP, log=NO_WORLD), forecast(shop=SHOP, log=NO_WORLD)), ((), ()))
        untold = NO_WORLD + (("run", "p", V, None), ("run", "p", A, None))
        self.assertEqual((possible(SHOP, untold), forecast(SHOP, untold)), ((), ((), ())))

    def test_against_all_tempers(self):
        chance = random.Random(41)
        worlds = clashes = 0
        logs = small_logs(chance, 50, two_groups()) + clashing_logs(chance, 80, SHOP)
        for log in logs:
            shop = SHOP if all(event[0] != "run" or event[2][0] != "w" for event in log) else two_groups()
            if not is_log(shop, log):
                continue
            found = filled(shop, log)
            right = plain_possible(shop, log)
            self.assertEqual([row[0] for row in found], plain_fillings(shop, log))
            self.assertEqual([filling for filling, answer in found if answer[0] == "world"], right)
            self.assertTrue(is_filled(shop, log, found))
            self.assertTrue(shows_filled(shop, log, found))
            self.assertEqual(possible(shop, log), tuple(right))
            many = len(plain_fillings(shop, log)[0])
            self.assertEqual(
                forecast(shop, log), tuple(tuple(sorted({row[place] for row in right})) for place in range(many)))
            worlds += len(right)
            clashes += len(found) - len(right)
        self.assertGreater(worlds, 100)
        self.assertGreater(clashes, 60)

    def test_worlds_agree(self):
        chance = random.Random(42)
        for log in small_logs(chance, 150, two_groups(), longest=25, untold=3):
            for filling, answer in filled(two_groups(), log):
                if answer[0] == "world":
                    self.assertTrue(answer[1].agrees(log, filling))
                    self.assertEqual(answer[1].shop, two_groups())
                else:
                    self.assertIn(answer[1], things_of(two_groups(), log, filling))

    def test_three_untold(self):
        log = LOG + (("run", "p", V, None), ("run", "p", A, None), ("fresh", "p"), ("run", "p", A, None))
        found = filled(SHOP, log)
        self.assertEqual([row[0] for row in found], plain_fillings(SHOP, log))
        self.assertEqual(forecast(SHOP, log), tuple(
            tuple(sorted({row[place] for row in plain_possible(SHOP, log)})) for place in range(3)))

    def test_bad_log(self):
        wrong = [value for value in any_values() if value != ()]
        wrong += [list(LOG), LOG * 6, LOG + (("run", "p", V, "skip"), ("run", "p", V, "pass"), ("run", "p", V, "skip"))]
        wrong += [(("run", "p", ("a", True), "pass"),), (("run", "p", V, None),) * 4]
        for value in wrong:
            for call in (filled, possible, forecast):
                assert_raises(self, BadLog, value, call, SHOP, value)
                assert_raises(self, BadLog, value, call, shop=SHOP, log=value)
            assert_raises(self, BadLog, value, shows_filled, SHOP, value, value)


class ShowsFilledTest(unittest.TestCase):
    def test_any_world_that_agrees(self):
        other = World(SHOP, (
            (A, "far", "pass", ((("gap", 3), "spoils"),)), (B, "near", "fail", ()), (G, "near", "pass", ()),
            (V, "far", "pass", ((("close", "g"), "mends"), (("pass", A), "spoils"), (("pass", V), "spoils")))))
        self.assertTrue(shows_filled(SHOP, LOG, (((), ("world", other)),)))
        self.assertTrue(shows_filled(shop=SHOP, log=LOG, value=(((), ("world", other)),)))
        self.assertFalse(shows_filled(SHOP, LOG, (((), ("world", a_world())),)))
        self.assertFalse(shows_filled(SHOP, LOG, (((), ("world", World(SHOP, other.tempers[:-1]))),)))
        log = (("run", "p", V, "pass"),)
        same = World(two_groups(), ((H, "near", "pass", ()), (V, "near", "pass", ())))
        self.assertTrue(shows_filled(two_groups(), log, (((), ("world", same)),)))
        self.assertFalse(shows_filled(SHOP, log, (((), ("world", same)),)))
        # It agrees, but is one of another shop.
        bigger = World(Shop((("g", ("a", "b", "v")), ("h", ("w",)))), other.tempers)
        self.assertTrue(bigger.agrees(LOG, ()))
        self.assertFalse(shows_filled(SHOP, LOG, (((), ("world", bigger)),)))
        self.assertFalse(shows_filled(SHOP, LOG, (((), ("world", other, other)),)))

    def test_other_fillings(self):
        log = LOG + (("run", "p", A, None),)
        found = filled(SHOP, log)
        self.assertEqual(len(found), 3)
        self.assertTrue(shows_filled(SHOP, log, found))
        for value in [found[1:], found[:-1], found + found[-1:], found[::-1], list(found), (), found[:1] * 3]:
            self.assertFalse(shows_filled(SHOP, log, value))
        turned = tuple((filling, found[k - 1][1]) for k, (filling, _) in enumerate(found))
        self.assertFalse(shows_filled(SHOP, log, turned))

    def test_any_clash(self):
        # More strikings than are needed, in another sequence, by other samples, and other ends.
        log = NO_WORLD + (("fresh", "p"), ("clear",), ("run", "q", V, "pass"), ("run", "q", V, "fail"))
        g = ("pass", G)
        for ends in [(0, 3), (6, 3)]:
            for striking in [(g, 0, 3), (g, 6, 3)]:
                clashes = tuple((where, (striking,), ends) for where in ("near", "far"))
                self.assertTrue(shows_filled(SHOP, log, (((), ("clash", V, clashes)),)))
        for ends in [(3, 0), (0, 6), (3, 3), (0,), (3,), (), (0, 3, 3), (0, 7), (2, 3), (0, 99), (-2, 3), (False, 3), "03"]:
            clashes = tuple((where, ((g, 0, 3),), ends) for where in ("near", "far"))
            self.assertFalse(shows_filled(SHOP, log, (((), ("clash", V, clashes)),)))
        good = tuple((where, ((g, 0, 3),), (0, 3)) for where in ("near", "far"))
        for clashes in [good[::-1], good[:1], good + good[:1], (good[0], good[0]), list(good),
                        (("near", (), (0, 3)), good[1]), (("near", ((g, 0, 3), (g, 0, 3)), (0, 3)), good[1]),
                        (("near", ((("pass", ("g", False)), 0, 3),), (0, 3)), good[1]),
                        (("near", ((("pass", V), 0, 3),), (0, 3)), good[1]), (("near", ((g, 3, 0),), (0, 3)), good[1]),
                        (("near", ((g, False, 3),), (0, 3)), good[1]), (("near", [(g, 0, 3)], (0, 3)), good[1])]:
            self.assertFalse(shows_filled(SHOP, log, (((), ("clash", V, clashes)),)))
        for thing in [A, G, ("v", True), ["v", 1], None, ("v", 2)]:
            self.assertFalse(shows_filled(SHOP, log, (((), ("clash", thing, good)),)))

    def test_strikings_in_another_sequence(self):
        chance = random.Random(43)
        many = 0
        for log in clashing_logs(chance, 200, SHOP, untold=0):
            (filling, answer), = filled(SHOP, log)
            if answer[0] == "world":
                continue
            clashes = []
            for where in ("near", "far"):
                samples = log_samples(SHOP, log, filling, answer[1], where)
                clash = self.random_clash(chance, samples, where)
                self.assertTrue(is_clash(samples, where, (None, None, ()), clash))
                clashes.append(clash)
            self.assertTrue(shows_filled(SHOP, log, ((filling, ("clash", answer[1], tuple(clashes))),)))
            many += 1
        self.assertGreater(many, 20)

    def random_clash(self, chance, samples, where):
        """Letters are struck at random as long as there are any, then any ends are taken."""
        left = {told: list(row[1]) for told, row in samples.items()}
        strikings = []
        while True:
            pairs = [
                (one, other) for one in samples for other in samples
                if samples[one][0] == "pass" and samples[other][0] == "fail" and left[one][-1:] == left[other][-1:]]
            ends = [pair for pair in pairs if not left[pair[0]]]
            pairs = [pair for pair in pairs if left[pair[0]]]
            if not pairs or (ends and chance.random() < 0.5):
                return where, tuple(strikings), chance.choice(ends)
            passing, failing = chance.choice(pairs)
            letter = left[passing][-1]
            strikings.append((letter, passing, failing))
            left = {told: [k for k in row if k != letter] for told, row in left.items()}

    def test_one_thing_otherwise(self):
        chance = random.Random(44)
        kept = 0
        for log in clashing_logs(chance, 25, SHOP, untold=1) + [LOG, NO_WORLD]:
            found = filled(SHOP, log)
            for other in some_otherwise(chance, found, 150):
                right = is_filled(SHOP, log, other)
                self.assertEqual(shows_filled(SHOP, log, other), right, other)
                kept += right
        self.assertGreater(kept, 50)

    def test_values_of_any_kind(self):
        for value in any_values():
            for log in (LOG, NO_WORLD):
                self.assertIs(shows_filled(SHOP, log, value), False)
                self.assertIs(shows_filled(SHOP, log, (value,)), False)
                for answer in [value, (value,), ("world", value), ("clash", value), ("clash", V, value),
                               ("clash", value, value), ("clash", V, (value, value)),
                               ("clash", V, (("near", value, (0, 3)),) * 2), ("clash", V, (("near", (value,), (0, 3)),) * 2),
                               ("clash", V, (("near", ((value, 0, 3),), (0, 3)),) * 2),
                               ("clash", V, (("near", ((("pass", G), value, 3),), (0, 3)),) * 2),
                               ("clash", V, (("near", (), value), ("far", (), value)))]:
                    self.assertIs(shows_filled(SHOP, log, (((), answer),)), False)
                    self.assertIs(shows_filled(SHOP, log, ((value, answer),)), False)


class LongerLogsTest(unittest.TestCase):
    """A clash of a log is one of each log that goes on; nothing is possible later that was not."""

    def test_clashes_stay(self):
        chance = random.Random(45)
        many = 0
        for log in clashing_logs(chance, 150, SHOP, untold=1):
            longer = log + random_events(chance, SHOP, chance.randrange(1, 8), 1)
            if not is_log(SHOP, longer):
                continue
            for filling, answer in filled(SHOP, log):
                for behind, _ in filled(SHOP, longer):
                    if answer[0] == "clash" and behind[:len(filling)] == filling:
                        for where, clash in zip(("near", "far"), answer[2]):
                            samples = log_samples(SHOP, longer, behind, answer[1], where)
                            self.assertTrue(is_clash(samples, where, (None, None, ()), clash))
                        row = dict(filled(SHOP, longer))
                        row[behind] = answer
                        self.assertTrue(shows_filled(SHOP, longer, tuple(sorted(row.items(), key=lambda pair: pair[0]))))
                        many += 1
            early = {filling[:len(plain_fillings(SHOP, log)[0])] for filling in possible(SHOP, longer)}
            self.assertLessEqual(early, set(possible(SHOP, log)))
        self.assertGreater(many, 40)

    def test_things_keep_clashing(self):
        chance = random.Random(46)
        for log in clashing_logs(chance, 40, SHOP, untold=0):
            thing = filled(SHOP, log)[0][1][1]
            if filled(SHOP, log)[0][1][0] == "clash":
                longer = log + (("run", "p", V, "pass"), ("run", "q", A, "pass"))
                self.assertFalse(has_temper(thing, plain_samples(SHOP, longer, (), thing)))
                self.assertEqual(possible(SHOP, longer), ())


if __name__ == "__main__":
    unittest.main()

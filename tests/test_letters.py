"""Point 5: letters and samples."""

import random
import unittest

from spoilorder.errors import BadFilling, BadLog, NoThing
from spoilorder.logs import fillings, is_log, letters, samples
from tests.common import A, B, G, H, V, any_values, assert_raises, two_groups
from tests.plain import plain_letters, plain_samples, random_events

SHOP = two_groups()
OPEN_G, OPEN_H, CLOSE_G, CLOSE_H = ("pass", G), ("pass", H), ("close", "g"), ("close", "h")


def run(worker, item, outcome):
    return ("run", worker, item, outcome)


def brought(log, filling=()):
    """The letters of a log of one worker p, by their events."""
    found = letters(SHOP, log, filling)
    assert [row[1] for row in found] == ["p"] * len(found)
    return [[row[2] for row in found if row[0] == event] for event in range(len(log))]


class LettersTest(unittest.TestCase):
    def test_open_once(self):
        log = (run("p", A, "pass"), run("p", B, "fail"), run("p", A, "pass"))
        self.assertEqual(brought(log), [[OPEN_G, ("pass", A)], [("fail", B)], [("pass", A)]])

    def test_close_and_open(self):
        log = (run("p", A, "pass"), run("p", V, "pass"), run("p", A, "fail"))
        self.assertEqual(brought(log), [
            [OPEN_G, ("pass", A)], [CLOSE_G, OPEN_H, ("pass", V)], [CLOSE_H, OPEN_G, ("fail", A)]])

    def test_openings_that_fail(self):
        log = (run("p", A, "skip"), run("p", A, "skip"), run("p", V, "pass"), run("p", A, "skip"), run("p", V, "skip"))
        self.assertEqual(brought(log), [
            [("fail", G)], [("fail", G)], [OPEN_H, ("pass", V)], [CLOSE_H, ("fail", G)], [("fail", H)]])

    def test_cut(self):
        log = (("clear",), run("p", A, "cut"), run("p", B, "cut"), run("p", V, "cut"), run("p", V, "pass"))
        self.assertEqual(brought(log), [
            [], [OPEN_G, ("cut", 1)], [("cut", 2)], [CLOSE_G, OPEN_H, ("cut", 3)], [("pass", V)]])

    def test_gap_fresh_and_clear(self):
        for word, row in (("gap", [("gap", 1)]), ("fresh", [])):
            log = (run("p", A, "pass"), (word, "p"), run("p", A, "pass"), run("p", V, "pass"))
            self.assertEqual(brought(log), [
                [OPEN_G, ("pass", A)], row, [OPEN_G, ("pass", A)], [CLOSE_G, OPEN_H, ("pass", V)]])
        log = (run("p", A, "pass"), ("clear",), run("p", A, "pass"))
        self.assertEqual(brought(log), [[OPEN_G, ("pass", A)], [], [("pass", A)]])

    def test_filled_in(self):
        log = (run("p", A, None), run("p", B, None), run("p", V, None))
        self.assertEqual(brought(log, ("skip", "fail", "skip")), [
            [("fail", G)], [OPEN_G, ("fail", B)], [CLOSE_G, ("fail", H)]])
        self.assertEqual(brought(log, ("pass", "pass", "fail")), [
            [OPEN_G, ("pass", A)], [("pass", B)], [CLOSE_G, OPEN_H, ("fail", V)]])

    def test_workers(self):
        log = (run("p", A, "pass"), run("q", A, "fail"), ("gap", "r"), ("fresh", "q"), run("p", V, "skip"))
        self.assertEqual(letters(SHOP, log, ()), (
            (0, "p", OPEN_G), (0, "p", ("pass", A)), (1, "q", OPEN_G), (1, "q", ("fail", A)), (2, "r", ("gap", 2)),
            (4, "p", CLOSE_G), (4, "p", ("fail", H))))
        self.assertEqual(letters(SHOP, (), ()), ())

    def test_workers_named_like_events(self):
        for name in ("clear", "fresh", "gap", "run", "pass", "skip", "cut"):
            log = (run("p", A, "pass"), run(name, A, "pass"), ("gap", name), ("fresh", name), run(name, B, None))
            self.assertEqual(fillings(SHOP, log), (("fail",), ("pass",), ("skip",)))
            self.assertEqual(letters(SHOP, log, ("pass",))[2:], (
                (1, name, OPEN_G), (1, name, ("pass", A)), (2, name, ("gap", 2)),
                (4, name, OPEN_G), (4, name, ("pass", B))))
            far = (OPEN_G, ("pass", A), OPEN_G, ("pass", A), ("gap", 2), OPEN_G)
            self.assertEqual(samples(SHOP, log, ("pass",), B), ((4, "pass", (OPEN_G,), far),))

    def test_by_name(self):
        log = (run("p", A, "pass"),)
        self.assertEqual(letters(shop=SHOP, log=log, filling=()), ((0, "p", OPEN_G), (0, "p", ("pass", A))))


class SamplesTest(unittest.TestCase):
    def test_letters_of_the_same_event(self):
        log = (run("p", A, "pass"), run("p", V, "fail"))
        ahead = (OPEN_G, ("pass", A), CLOSE_G, OPEN_H)
        self.assertEqual(samples(SHOP, log, (), V), ((1, "fail", ahead, ahead),))
        self.assertEqual(samples(SHOP, log, (), H), ((1, "pass", ahead[:3], ahead[:3]),))
        self.assertEqual(samples(SHOP, log, (), G), ((0, "pass", (), ()),))

    def test_near_and_far(self):
        log = (run("p", A, "pass"), run("q", A, "fail"), run("p", B, "pass"))
        self.assertEqual(samples(SHOP, log, (), B), ((
            2, "pass", (OPEN_G, ("pass", A)), (OPEN_G, ("pass", A), OPEN_G, ("fail", A))),))

    def test_fresh_keeps_the_far_letters(self):
        log = (run("p", A, "pass"), ("fresh", "p"), run("p", A, "fail"))
        self.assertEqual(samples(SHOP, log, (), A), (
            (0, "pass", (OPEN_G,), (OPEN_G,)), (2, "fail", (OPEN_G,), (OPEN_G, ("pass", A), OPEN_G))))

    def test_fresh_of_another_worker(self):
        log = (run("p", A, "pass"), ("fresh", "q"), run("p", A, "fail"))
        ahead = (OPEN_G, ("pass", A))
        self.assertEqual(samples(SHOP, log, (), A)[1], (2, "fail", ahead, ahead))

    def test_clear_keeps_the_near_letters(self):
        log = (run("p", A, "pass"), ("clear",), run("p", A, "fail"), run("q", A, "pass"))
        self.assertEqual(samples(SHOP, log, (), A)[1:], (
            (2, "fail", (OPEN_G, ("pass", A)), ()), (3, "pass", (OPEN_G,), (("fail", A), OPEN_G))))

    def test_gap_and_cut_are_letters(self):
        log = (("gap", "p"), run("p", A, "cut"), ("gap", "q"), run("p", A, "pass"))
        self.assertEqual(samples(SHOP, log, (), A), ((
            3, "pass", (("gap", 0), OPEN_G, ("cut", 1)), (("gap", 0), OPEN_G, ("cut", 1), ("gap", 2))),))
        self.assertEqual(samples(SHOP, log, (), G), ((1, "pass", (("gap", 0),), (("gap", 0),)),))

    def test_openings(self):
        log = (run("p", A, "skip"), run("p", B, "skip"), run("p", A, "cut"))
        twice = (("fail", G), ("fail", G))
        self.assertEqual(samples(SHOP, log, (), G), (
            (0, "fail", (), ()), (1, "fail", twice[:1], twice[:1]), (2, "pass", twice, twice)))

    def test_no_samples(self):
        log = (run("p", A, "skip"), run("p", B, "cut"))
        for thing in (A, B, V, H, ("a", 2), ("w", 9)):
            self.assertEqual(samples(SHOP, log, (), thing), ())

    def test_editions_are_different_things(self):
        log = (run("p", A, "pass"), run("p", ("a", 2), "fail"))
        self.assertEqual([len(samples(SHOP, log, (), ("a", edition))) for edition in (1, 2, 3)], [1, 1, 0])

    def test_filled_in(self):
        log = (run("p", A, None), run("p", A, None))
        ahead = (("fail", G), OPEN_G)
        self.assertEqual(samples(SHOP, log, ("skip", "pass"), A), ((1, "pass", ahead, ahead),))
        self.assertEqual([row[:2] for row in samples(SHOP, log, ("fail", "pass"), A)], [(0, "fail"), (1, "pass")])

    def test_by_name(self):
        log = (run("p", A, None),)
        self.assertEqual(
            samples(shop=SHOP, log=log, filling=("fail",), thing=A), ((0, "fail", (OPEN_G,), (OPEN_G,)),))


class ErrorsTest(unittest.TestCase):
    log = (run("p", A, None), run("p", B, None))
    no_fillings = [
        (), ("pass",), ("pass", "pass", "pass"), ("pass", "skip"), ("fail", "skip"), ["pass", "pass"],
        ("pass", None), ("pass", "cut"), ("cut", "pass"), ("pass", "gap"), ("pass", True), ("pass", ["pass"]),
        ("pass", {}), (["pass"], "pass"), (("pass",), "pass"), "passpass", ("pass", ""), ("Pass", "pass"),
        {"pass": "pass"}, {0: "pass", 1: "pass"}, ((), ()),
    ]

    def test_bad_filling(self):
        for value in any_values() + self.no_fillings:
            assert_raises(self, BadFilling, value, letters, SHOP, self.log, value)
            assert_raises(self, BadFilling, value, letters, shop=SHOP, log=self.log, filling=value)
            assert_raises(self, BadFilling, value, samples, SHOP, self.log, value, A)
            if value != ():
                assert_raises(self, BadFilling, value, letters, SHOP, (), value)

    def test_bad_log(self):
        for value in [value for value in any_values() if value != ()] + [self.log * 2, list(self.log)]:
            assert_raises(self, BadLog, value, letters, SHOP, value, ())
            assert_raises(self, BadLog, value, letters, SHOP, value, value)
            assert_raises(self, BadLog, value, samples, SHOP, value, (), A)
            assert_raises(self, BadLog, value, samples, shop=SHOP, log=value, filling=[], thing=[])

    def test_no_thing(self):
        wrong = ["a", ("a", 0), ("g", 1), ("g", False), ("a", True), ["a", 1], ("x", 1), ("pass", A)]
        for value in any_values() + wrong:
            assert_raises(self, NoThing, value, samples, SHOP, self.log, ("pass", "pass"), value)
            assert_raises(self, NoThing, value, samples, shop=SHOP, log=(), filling=(), thing=value)

    def test_sequence(self):
        wrong = ("a", True)
        assert_raises(self, BadLog, wrong, samples, SHOP, wrong, ["x"], ["y"])
        assert_raises(self, BadFilling, wrong, samples, SHOP, self.log, wrong, ["y"])
        assert_raises(self, NoThing, wrong, samples, SHOP, self.log, ("pass", "fail"), wrong)
        assert_raises(self, BadLog, wrong, letters, SHOP, wrong, ["x"])


class AsToldTest(unittest.TestCase):
    def test_as_told(self):
        chance = random.Random(11)
        things = [(check, edition) for check in SHOP.checks for edition in (1, 2, 9)] + [G, H]
        seen = 0
        for _ in range(1200):
            log = random_events(chance, SHOP, chance.randrange(0, 14))
            if not is_log(SHOP, log):
                continue
            for filling in fillings(SHOP, log):
                found = letters(SHOP, log, filling)
                self.assertEqual(found, tuple(plain_letters(SHOP, log, filling)))
                for thing in things:
                    row = samples(SHOP, log, filling, thing)
                    seen += len(row)
                    self.assertEqual(row, tuple(plain_samples(SHOP, log, filling, thing)))
                    self.assertEqual(list(row), sorted(row))
        self.assertGreater(seen, 2000)

    def test_longest_log(self):
        log = (run("p", A, "pass"), run("p", V, "fail"), run("q", ("w", 1), "pass")) * 10
        self.assertEqual(letters(SHOP, log, ()), tuple(plain_letters(SHOP, log, ())))
        self.assertEqual(samples(SHOP, log, (), V), tuple(plain_samples(SHOP, log, (), V)))


if __name__ == "__main__":
    unittest.main()

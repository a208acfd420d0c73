"""Point 13: asked and shows_asked; point 3 (e)."""

import random
import unittest

from spoilorder.asking import asked, shows_asked
from spoilorder.errors import BadLog, BadMost, BadQuestion, BadTrials, Full, NoWorld
from spoilorder.logs import is_log
from spoilorder.striking import possible
from spoilorder.worlds import World
from tests.common import A, B, G, H, V, a_world, any_values, assert_raises, one_group, some_otherwise, two_groups
from tests.plain_asking import PlainAsking
from tests.test_filled import NO_WORLD
from tests.test_is_safe import ANEW, LOG, some_logs, told_run

SHOP = one_group()
# a spoils v, near or far.
SPOILT = (told_run("p", A, "pass"), told_run("p", V, "fail")) + ANEW + (told_run("p", V, "pass"),) + ANEW
NEAR_OR_FAR = (told_run("p", A), told_run("q", V))
MENDING = ANEW[:2] + (told_run("p", A), ("fresh", "q"), told_run("p", V))
WHERE = ("where", V)
# v passes twice on q, and then a surely on p; whether v fails behind that on q tells where its mark lies.
SURE = SPOILT + (told_run("q", V, "pass"), told_run("q", V, "pass"), told_run("p", A, "pass")) + ANEW
SURE = SURE + (told_run("q", V, "pass"), told_run("q", V, "pass"))
# What a does alone and what b does alone; and both, each on a fresh worker and a clear store.
ALONE = (("clear",), ("fresh", "p"), told_run("p", A)), (("clear",), ("fresh", "p"), told_run("p", B))
BOTH = ("events", (("clear",), ("fresh", "p"), told_run("p", A), ("clear",), told_run("q", B)))


def random_trial(chance):
    events = [told_run(chance.choice("pq"), chance.choice((A, B, V))) for _ in range(chance.choice((1, 2, 2)))]
    if chance.random() < 0.7:
        events = list(ANEW) + events
    elif chance.random() < 0.5:
        events.insert(chance.randrange(len(events) + 1), chance.choice((("clear",), ("fresh", "p"), ("fresh", "q"))))
    return tuple(events)


def random_question(chance):
    letters = [("pass", A), ("pass", B), ("pass", G), ("fail", V), ("pass", V), ("gap", 3), ("close", "g")]
    return chance.choice([
        ("kind", V, chance.choice(letters)), ("kind", V, ("pass", A)), ("kind", V, ("pass", B)), ("where", V), ("where", A),
        ("events", random_trial(chance)), ("events", (told_run("p", V),))])


class AskedTest(unittest.TestCase):
    def check(self, log, trials, question, most):
        found = asked(shop=SHOP, log=log, trials=trials, question=question, most=most)
        self.assertTrue(PlainAsking(SHOP, trials, question).is_asked(log, most, found))
        self.assertTrue(shows_asked(shop=SHOP, log=log, trials=trials, question=question, most=most, value=found))
        self.assertEqual(asked(SHOP, log, trials, question, most), found)
        return found

    def test_settled_at_once(self):
        for most in (0, 1, 2):
            found = self.check(SPOILT, (MENDING,), ("kind", V, ("pass", A)), most)
            self.assertEqual(found, ("settles", 0, ("settled",), None))
            self.assertEqual(self.check(SPOILT, (MENDING,), ("events", ANEW + (told_run("p", V),)), most), found)

    def test_settled_by_one(self):
        found = self.check(SURE, (MENDING, NEAR_OR_FAR), WHERE, 0)
        self.assertEqual(found[0], "open")
        self.assertEqual([part[0] for part in found[1][1:]], ["far", "near"])
        leaf = ("settled",)
        for most in (1, 2):
            found = self.check(SURE, (MENDING, NEAR_OR_FAR), WHERE, most)
            self.assertEqual(found[:3], (
                "settles", 1, ("run", 1, ((("pass", "fail"), leaf), (("pass", "pass"), leaf)))))
            self.assertEqual(found[3][0], "unlike")
        # Where a could as well fail on p it is not enough.
        self.assertEqual(self.check(SPOILT, (NEAR_OR_FAR,), WHERE, 1)[0], "open")

    def test_tree_of_one(self):
        trial = ANEW + (told_run("p", B), told_run("p", V))
        question = ("events", trial)
        self.assertEqual(self.check(SPOILT, (NEAR_OR_FAR, trial), question, 0)[0], "open")
        for most in (1, 2):
            found = self.check(SPOILT, (NEAR_OR_FAR, trial), question, most)
            self.assertEqual(found[:3], ("settles", 1, ("run", 1, tuple(
                ((one, other), ("settled",)) for one in ("fail", "pass") for other in ("fail", "pass")))))
            self.assertEqual(found[3][0], "unlike")

    def test_two_are_needed(self):
        for most in (0, 1):
            self.assertEqual(self.check((), ALONE, BOTH, most)[0], "open")
        found = self.check((), ALONE, BOTH, 2)
        leaf = ("settled",)
        other = ("run", 1, ((("fail",), leaf), (("pass",), leaf)))
        # Where the opening fails for a it does for b.
        self.assertEqual(found[:3], (
            "settles", 2, ("run", 0, ((("fail",), other), (("pass",), other), (("skip",), leaf)))))
        self.assertEqual((found[3][0], [branch[1][0] for branch in found[3][1]]), ("whatever", ["unlike", "unlike"]))

    def test_a_trial_that_changes_what_it_asks(self):
        # A run behind a run of its own kind is another one: telling it never settles what comes next.
        for most in (0, 1, 2):
            self.assertEqual(self.check((), ((told_run("p", A),),), ("events", (told_run("p", A),)), most)[0], "open")
        anew = (("clear",), ("fresh", "p"), told_run("p", A), told_run("p", A))
        self.assertEqual(self.check((), (anew,), ("events", anew), 2)[:2], ("settles", 1))

    def test_a_contrary_of_a_row_behind_which_no_tree_is_left(self):
        # Behind the first row of outcomes that leaves the question open there is a tree of one trial, behind another none.
        log, question = (told_run("p", A, "pass"),), ("events", (("fresh", "p"), told_run("p", A)))
        twice = (("fresh", "p"), told_run("p", A), told_run("p", A))
        for trials in [(twice,), (ALONE[1] + (told_run("p", A),), twice), (twice[:2], (("clear",), told_run("p", A)))]:
            self.assertEqual(self.check(log, trials, question, 2)[0], "open")

    def test_none_is_enough(self):
        for most in (0, 1, 2):
            found = self.check((), (NEAR_OR_FAR, MENDING), ("where", B), most)
            self.assertEqual(found[0], "open")
            less = found[1]
            for _ in range(most):
                self.assertEqual((less[0], len(less[1])), ("whatever", 2))
                less = less[1][0][1]
            self.assertEqual(less[0], "unlike")

    def test_settled_first_and_open_later(self):
        # What the trial asked about will do is sure now, but is not behind another trial.
        log = (told_run("p", V, "pass"),) + ANEW
        question = ("events", (told_run("p", V),))
        self.assertEqual(self.check(log, ((told_run("p", A),),), question, 2), ("settles", 0, ("settled",), None))

    def test_against_all_trees(self):
        chance = random.Random(121)
        seen = []
        for log in some_logs(chance, 50):
            trials = tuple(random_trial(chance) for _ in range(chance.choice((1, 2, 2, 3))))
            question, most = random_question(chance), chance.choice((0, 1, 1, 2, 2))
            if chance.random() < 0.3:
                question = ("events", trials[0])
            if len(log) + 5 * (most + 1) > 30:
                continue
            found = self.check(log, trials, question, most)
            number = PlainAsking(SHOP, trials, question).fewest(log, most)
            self.assertEqual(found[0], "open" if number is None else "settles")
            if number is not None:
                self.assertEqual(found[1], number)
            seen.append((question[0], number))
        for kind in ("kind", "where", "events"):
            self.assertGreater(len([row for row in seen if row[0] == kind]), 10)
        for number in (None, 0, 1):
            self.assertGreater(len([row for row in seen if row[1] == number]), 2)

    def test_question_about_what_is_not_there(self):
        # The worlds have the thing and the letter's, with the openings of their groups.
        shop = two_groups()
        for question, things in [(("kind", A, ("pass", ("w", 1))), (A, G, H, ("w", 1))), (("kind", H, ("close", "g")), (H,)),
                                 (("where", ("w", 3)), (H, ("w", 3))), (("kind", A, ("fail", H)), (A, G, H)),
                                 (("kind", A, ("gap", 3)), (A, G))]:
            found = asked(shop, (), ((told_run("p", B),),), question, 0)
            self.assertEqual((found[0], found[1][0]), ("open", "unlike"))
            for part in found[1][1:]:
                self.assertEqual(part[2].things, things)
            self.assertTrue(shows_asked(shop, (), ((told_run("p", B),),), question, 0, found))
            fewer = [World(shop, tuple(row for row in part[2].tempers if row[0] != things[0])) for part in found[1][1:]
                     if things[0][1] or len(things) == 1]
            for world in fewer:
                other = ("open", ("unlike", found[1][1][:2] + (world,), found[1][2]))
                self.assertFalse(shows_asked(shop, (), ((told_run("p", B),),), question, 0, other))

    def test_long_logs(self):
        log = LOG + (("clear",),) * (30 - len(LOG))
        trial, other = ANEW + (told_run("p", V), told_run("p", V)), ANEW + (told_run("p", B), told_run("p", V))
        found = asked(SHOP, log, (other, trial), ("events", trial), 2)
        self.assertEqual((found[:2], found[2][:2]), (("settles", 1), ("run", 1)))
        self.assertTrue(shows_asked(SHOP, log, (other, trial), ("events", trial), 2, found))
        self.assertFalse(is_log(SHOP, log + trial))
        # By two trials of five events, and the one that is asked about, there are 45.
        found = asked(SHOP, log, (other, other), WHERE, 2)
        self.assertTrue(shows_asked(SHOP, log, (other, other), WHERE, 2, found))
        both = asked(SHOP, log, (other, trial), ("events", NEAR_OR_FAR + (("clear",),) * 3), 2)
        self.assertTrue(shows_asked(SHOP, log, (other, trial), ("events", NEAR_OR_FAR + (("clear",),) * 3), 2, both))

    def test_one_untold(self):
        log = SPOILT[:2] + (told_run("p", A),) + ANEW
        for question in (WHERE, ("kind", V, ("pass", A)), ("events", (told_run("p", V),))):
            self.check(log, (NEAR_OR_FAR, (told_run("p", V),)), question, 1)


class ErrorsTest(unittest.TestCase):
    def raises(self, error, told, log, trials, question, most):
        assert_raises(self, error, told, asked, SHOP, log, trials, question, most)
        assert_raises(self, error, told, asked, shop=SHOP, log=log, trials=trials, question=question, most=most)
        assert_raises(self, error, told, shows_asked, SHOP, log, trials, question, most, None)

    def setUp(self):
        self.full = SPOILT + (told_run("p", A), told_run("p", A))
        runs = (told_run("p", A), told_run("q", A))
        self.no_trials = [
            (), ("clear",), (("clear",),), runs + runs[:1], list(runs), (list(runs[0]),), (told_run("p", A, "pass"),),
            runs + (("clear",),) * 4, (("gap", "p"),) + runs, (told_run("p", G),), (told_run("p", ("a", True)),), runs[0],
            (told_run("P", A),), (told_run("p", A)[:3],), (("fresh", "p"),), (("fresh",),) + runs, (("clear", "p"),) + runs,
            runs + (told_run("p", A, "cut"),), (told_run("p", A, False),)]

    def test_bad_log_and_no_world(self):
        for value in [value for value in any_values() if value != ()]:
            self.raises(BadLog, value, value, None, None, None)
        for log in (NO_WORLD, NO_WORLD + self.full[-2:]):
            self.raises(NoWorld, log, log, None, None, None)

    def test_bad_trials(self):
        wrong = any_values() + [(), NEAR_OR_FAR, [NEAR_OR_FAR], (NEAR_OR_FAR,) * 5, (NEAR_OR_FAR, None)]
        wrong += [(trial,) for trial in self.no_trials] + [(NEAR_OR_FAR, trial) for trial in self.no_trials]
        wrong += [(value,) for value in any_values()]
        for value in wrong:
            self.raises(BadTrials, value, SPOILT, value, WHERE, 1)
            self.raises(BadTrials, value, self.full, value, None, None)
        five = (("clear",),) * 3 + NEAR_OR_FAR
        self.assertEqual(asked(SHOP, SPOILT, (five,) * 4, WHERE, 0)[0], "open")

    def test_bad_question(self):
        wrong = any_values() + [("where",), ("where", V, ("pass", A)), ("kind", V), ("kind", V, ("pass", A), 1), ["where", V],
                                ("where", ("v", True)), ("where", H), ("where", ["v", 1]), ("kind", ("a", 0), ("pass", A)),
                                ("kind", V, ("pass", ("a", 10))), ("kind", V, ("cut", 30)), ("kind", V, ("cut", True)),
                                ("kind", V, None), ("kind", None, ("pass", A)), ("how", V), ("Where", V), (None, V), ("events",),
                                ("events", NEAR_OR_FAR, ()), ("events", V), ("where", NEAR_OR_FAR), ("kind", V, A)]
        wrong += [("events", trial) for trial in self.no_trials]
        wrong += [(word, value) for value in any_values() for word in ("where", "events")]
        wrong += [("kind", V, value) for value in any_values()] + [("kind", value, ("pass", A)) for value in any_values()]
        for value in wrong:
            self.raises(BadQuestion, value, SPOILT, (NEAR_OR_FAR,), value, 1)
            self.raises(BadQuestion, value, self.full, (NEAR_OR_FAR,), value, None)

    def test_bad_most(self):
        for value in any_values() + [3, -1]:
            if isinstance(value, bool) or value not in (0, 1, 2):
                self.raises(BadMost, value, SPOILT, (NEAR_OR_FAR,), WHERE, value)
                self.raises(BadMost, value, self.full, (NEAR_OR_FAR,), WHERE, value)

    def test_full(self):
        self.raises(Full, self.full, self.full, (NEAR_OR_FAR,), WHERE, 1)
        third = (("fresh", "r"), told_run("r", A))
        fourth = (("fresh", "s"), told_run("p", A))
        for trials, question, good in [
                ((NEAR_OR_FAR, third), WHERE, True), ((NEAR_OR_FAR, third, fourth), WHERE, False),
                ((NEAR_OR_FAR, third), ("events", fourth), False), ((NEAR_OR_FAR, fourth), ("events", NEAR_OR_FAR), True)]:
            if good:
                asked(SHOP, SPOILT, trials, question, 0)
            else:
                self.raises(Full, SPOILT, SPOILT, trials, question, 0)
        # a and v are in the log; so there is room for three items more.
        some = tuple((told_run("p", (check, 2)),) for check in "abv")
        for trials, question, good in [
                (some, WHERE, True), (some + (((told_run("p", B)),),), WHERE, False), (some, ("where", B), False),
                (some, ("where", ("b", 2)), True), (some, ("where", G), True), (some, ("kind", V, ("pass", B)), False),
                (some, ("kind", V, ("fail", ("b", 2))), True), (some, ("kind", V, ("pass", G)), True),
                (some, ("kind", B, ("pass", A)), False), (some, ("kind", V, ("gap", 3)), True),
                (some, ("events", (told_run("p", B),)), False), (some[:2], ("kind", B, ("pass", ("v", 2))), False),
                (some[:1], ("kind", B, ("pass", ("v", 2))), True)]:
            if good:
                asked(SHOP, SPOILT, trials, question, 0)
            else:
                self.raises(Full, SPOILT, SPOILT, trials, question, 0)


class ShowsAskedTest(unittest.TestCase):
    def test_any_tree(self):
        trial = ANEW + (told_run("p", B), told_run("p", V))
        trials, question = (NEAR_OR_FAR, trial, trial), ("events", trial)
        found = asked(SHOP, SPOILT, trials, question, 2)
        leaf = ("settled",)
        rows = tuple(row[0] for row in found[2][2])
        for tree, good in [
                (("run", 2, found[2][2]), True), (("run", 1, found[2][2]), True), (("run", 0, found[2][2]), False),
                (("run", 3, found[2][2]), False), (("run", True, found[2][2]), False), (("run", -1, found[2][2]), False),
                (leaf, False), (("run", 1, found[2][2][1:]), False), (("run", 1, found[2][2][::-1]), False),
                (("run", 1, tuple((row, ("run", 1, ())) for row in rows)), False), (("run", 1, list(found[2][2])), False),
                (["run", 1, found[2][2]], False), (("ran", 1, found[2][2]), False), (("run", 1, found[2][2], ()), False),
                (("run", 1, tuple((row, ["settled"]) for row in rows)), False)]:
            value = ("settles", 1, tree, found[3])
            self.assertEqual(shows_asked(SHOP, SPOILT, trials, question, 2, value), good, tree)
        # A tree by which two trials are run on some way.
        deeper = ("run", 1, tuple((row, ("run", 1, found[2][2] if place == 0 else ())) for place, row in enumerate(rows)))
        self.assertFalse(shows_asked(SHOP, SPOILT, trials, question, 2, ("settles", 1, deeper, found[3])))
        again = [("run", 2, ((row, leaf),)) for row in rows]
        deeper = ("run", 1, ((rows[0], again[0]),) + tuple((row, leaf) for row in rows[1:]))
        plain = PlainAsking(SHOP, trials, question)
        self.assertTrue(plain.is_tree(SPOILT, 2, deeper))
        self.assertFalse(shows_asked(SHOP, SPOILT, trials, question, 2, ("settles", 1, deeper, found[3])))
        for number in (0, 2, True, None, "1"):
            self.assertFalse(shows_asked(SHOP, SPOILT, trials, question, 2, ("settles", number) + found[2:]))
        self.assertFalse(shows_asked(SHOP, SPOILT, trials, question, 2, ("open", found[3])))
        self.assertFalse(shows_asked(SHOP, SPOILT, trials, question, 2, found[:3] + (None,)))
        self.assertFalse(shows_asked(SHOP, SPOILT, trials, question, 2, found[:3]))

    def test_settled_ones(self):
        question = ("kind", V, ("pass", A))
        right = ("settles", 0, ("settled",), None)
        self.assertTrue(shows_asked(SHOP, SPOILT, (NEAR_OR_FAR,), question, 2, right))
        world = a_world()
        for value in [("settles", False) + right[2:], right[:3] + ((),), right[:3] + (("unlike", (), ()),),
                      ("settles", 1) + right[2:], right[:2] + (("settled", 1), None), right[:2] + ("settled", None), list(right),
                      ("open", ("unlike", ("spoils", (), world), ("spoils", (), world)))]:
            self.assertFalse(shows_asked(SHOP, SPOILT, (NEAR_OR_FAR,), question, 2, value))

    def test_any_contrary(self):
        found = asked(SHOP, SPOILT, (NEAR_OR_FAR,), WHERE, 0)
        near, far = a_world(), World(SHOP, a_world().tempers[:-1] + ((V, "far") + a_world().tempers[-1][2:],))
        one, other = ("near", (), near), ("far", (), far)
        for less, good in [
                (("unlike", one, other), True), (("unlike", other, one), True), (("unlike", found[1][1], one), True),
                (("unlike", one, one), False), (("unlike", ("far", (), near), other), False), (("unlike", one, ("far", (), near)), False),
                (("unlike", one), False), (("unlike", one, other, other), False), (["unlike", one, other], False),
                (("unlike", ("near", None, near), other), False), (("unlike", ("near", ("pass",), near), other), False),
                (("unlike", ("near", (), None), other), False), (("unlike", list(one), other), False),
                (("unlike", (None, (), near), other), False), (("whatever", ((("pass", "pass"), ("unlike", one, other)),)), False),
                (("unlike", ("near", (), World(SHOP, near.tempers[:-1])), other), False)]:
            self.assertEqual(shows_asked(SHOP, SPOILT, (NEAR_OR_FAR,), WHERE, 0, ("open", less)), good, less)
            self.assertEqual(PlainAsking(SHOP, (NEAR_OR_FAR,), WHERE).is_asked(SPOILT, 0, ("open", less)), good, less)
        self.assertFalse(shows_asked(SHOP, SPOILT, (NEAR_OR_FAR,), WHERE, 1, ("open", ("unlike", one, other))))

    def test_any_possible_row_of_outcomes(self):
        chance = random.Random(123)
        trials = (ANEW + (told_run("p", B),), ANEW + (told_run("q", A),))
        plain = PlainAsking(SHOP, trials, WHERE)
        found = asked(SHOP, SPOILT, trials, WHERE, 1)
        self.assertEqual(found[0], "open")
        kept = 0
        for place in (0, 1):
            for row in [("pass",), ("fail",), ("skip",), (), ("cut",), ["pass"], "pass", None]:
                for less in (found[1][1][place][1], found[1][1][1 - place][1]):
                    branches = list(found[1][1])
                    branches[place] = (row, less)
                    value = ("open", ("whatever", tuple(branches)))
                    right = plain.is_asked(SPOILT, 1, value)
                    self.assertEqual(shows_asked(SHOP, SPOILT, trials, WHERE, 1, value), right)
                    kept += right
        self.assertGreater(kept, 2)
        for branches in [found[1][1][::-1], found[1][1][:1], found[1][1] * 2, list(found[1][1]), ()]:
            value = ("open", ("whatever", branches))
            self.assertEqual(
                shows_asked(SHOP, SPOILT, trials, WHERE, 1, value), plain.is_asked(SPOILT, 1, value), chance)

    def test_one_thing_otherwise(self):
        chance = random.Random(124)
        kept = many = 0
        for log in some_logs(chance, 20):
            trials = tuple(random_trial(chance) for _ in range(2))
            question, most = random_question(chance), chance.choice((0, 1, 1))
            if len(log) > 20 or not possible(SHOP, log):
                continue
            plain = PlainAsking(SHOP, trials, question)
            found = asked(SHOP, log, trials, question, most)
            for other in some_otherwise(chance, found, 40):
                right = plain.is_asked(log, most, other)
                self.assertEqual(shows_asked(SHOP, log, trials, question, most, other), right, other)
                kept += right
                many += 1
        self.assertGreater(kept, 30)
        self.assertGreater(many - kept, 300)

    def test_values_of_any_kind(self):
        for value in any_values():
            for told in [value, (value,), ("open", value), ("open", ("unlike", value, value)), ("open", ("whatever", value)),
                         ("open", ("whatever", (value,))), ("open", ("whatever", ((value, value),))), ("settles", value, ("settled",), None),
                         ("settles", 0, value, None), ("settles", 0, ("settled",), value), ("settles", 1, ("run", value, ()), value),
                         ("open", ("unlike", ("near", value, a_world()), ("far", (), value)))]:
                self.assertIs(shows_asked(SHOP, SPOILT, (NEAR_OR_FAR,), WHERE, 1, told), False)
                self.assertIs(shows_asked(SHOP, SPOILT, (NEAR_OR_FAR,), WHERE, 0, told), False)
            told = ("settles", 0, ("settled",), value)
            self.assertIs(shows_asked(SHOP, SPOILT, (NEAR_OR_FAR,), ("kind", V, ("pass", A)), 1, told), value is None)


if __name__ == "__main__":
    unittest.main()

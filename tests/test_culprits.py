"""Point 11: culprits and suspects."""

import random
import unittest

from spoilorder.culprits import culprits, suspects
from spoilorder.errors import BadLog, NoSample, NotTold, NoWorld
from spoilorder.logs import is_log
from spoilorder.looks import shows_under
from spoilorder.striking import possible, under
from tests.common import A, B, G, V, any_values, assert_raises, one_group, two_groups
from tests.plain import plain_letters, plain_samples, random_world
from tests.plain_striking import has_temper
from tests.test_filled import LOG, NO_WORLD, clashing_logs, small_logs

SHOP = one_group()


def plain_culprits(shop, log, event, thing):
    """By the words of the document; with what is held in the place of an answer."""
    sample = [row for row in plain_samples(shop, log, (), thing) if row[0] == event][0]
    found = []
    for where, ahead in [("near", sample[2]), ("far", sample[3])]:
        found.append((where, -1, (where, sample[1], tuple(sorted((letter, "idle") for letter in set(ahead))))))
        for number, letter in enumerate(ahead):
            again = [place for place in range(number + 1, len(ahead)) if ahead[place] == letter]
            if again:
                found.append((where, number, ("later", again[-1])))
            else:
                kinds = {later: "idle" for later in ahead[number + 1:]}
                kinds[letter] = "mends" if sample[1] == "pass" else "spoils"
                found.append((where, number, (where, None, tuple(sorted(kinds.items())))))
    return found


def origins(shop, log, event, thing):
    """For near and far the events at which the letters came."""
    rows = plain_letters(shop, log, ())
    end = [place for place, row in enumerate(rows) if row[0] == event and row[2] in (("pass", thing), ("fail", thing))][0]
    worker = rows[end][1]
    fresh = max([k for k in range(event) if log[k] == ("fresh", worker)], default=-1)
    clear = max([k for k in range(event) if log[k] == ("clear",)], default=-1)
    near = [(row[0], row[2]) for row in rows[:end] if row[1] == worker and row[0] > fresh]
    return {"near": near, "far": [(row[0], row[2]) for row in rows[:end] if row[0] > clear]}


def told_logs(chance, many):
    """Logs without None that have a world, with samples."""
    found = []
    while len(found) < many:
        log = (small_logs(chance, 1, SHOP, 8, 0) + clashing_logs(chance, 1, SHOP, 0))[chance.randrange(2)]
        if possible(SHOP, log) and any(event[0] == "run" and event[3] in ("pass", "fail") for event in log):
            found.append(log)
    return found


def run_logs(chance, many):
    """Logs of what a world does, with openings that fail and groups that are closed."""
    found = []
    while len(found) < many:
        world = random_world(chance, two_groups())
        if not world.all_items:
            continue
        state, log = world.start(2), []
        for _ in range(chance.randrange(2, 9)):
            number, word = chance.randrange(2), chance.choice(("run",) * 5 + ("fresh", "clear"))
            if word == "run":
                item = chance.choice(world.all_items)
                outcome, state = world.after(state, number, item)
                log.append(("run", "pq"[number], item, outcome))
            elif word == "fresh":
                state = world.freshened(state, number)
                log.append(("fresh", "pq"[number]))
            else:
                state = world.cleared(state)
                log.append(("clear",))
        found.append((two_groups(), tuple(log)))
    return found


class CulpritsTest(unittest.TestCase):
    def test_document(self):
        self.assertEqual(suspects(SHOP, LOG, 1, V), ((0, ("pass", A)),))

    def test_all_of_the_documents_log(self):
        found = culprits(shop=SHOP, log=LOG, event=1, thing=V)
        self.assertEqual([row[:2] for row in found], [
            ("near", -1), ("near", 0), ("far", -1), ("far", 0), ("far", 1), ("far", 2)])
        # The same opening comes again on the other worker.
        self.assertEqual(found[3][2], ("later", 2))
        self.assertEqual([row[2][0] for row in found], ["clash", "clash", "clash", "later", "temper", "clash"])
        # The opening cannot have mended v at event 5: it was the last letter at event 1, too.
        self.assertEqual(suspects(shop=SHOP, log=LOG, event=5, thing=V), ((-1, ()),))

    def test_first(self):
        log = (("run", "p", A, "pass"),)
        self.assertEqual([row[:2] for row in culprits(SHOP, log, 0, G)], [("near", -1), ("far", -1)])
        self.assertEqual(suspects(SHOP, log, 0, G), ((-1, ()),))
        self.assertEqual(suspects(SHOP, log, 0, A), ((-1, ()), (0, ("pass", G))))

    def test_cut_and_gap(self):
        log = (("run", "p", A, "cut"), ("gap", "p"), ("run", "p", V, "fail"), ("fresh", "p"), ("clear",), ("run", "p", V, "pass"))
        self.assertEqual(suspects(SHOP, log, 2, V), ((0, ("cut", 0)), (1, ("gap", 1))))
        answers = {row[:2]: row[2] for row in culprits(SHOP, log, 2, V)}
        self.assertEqual(answers["near", 0], ("later", 3))
        self.assertEqual(answers["near", 1][0], "temper")

    def test_letter_more_than_twice(self):
        log = (("run", "p", A, "pass"), ("run", "p", A, "pass"), ("run", "p", B, "pass"), ("run", "p", A, "pass"), ("run", "p", V, "fail"))
        answers = {row[:2]: row[2] for row in culprits(SHOP, log, 4, V)}
        self.assertEqual([answers["near", number][0] for number in range(-1, 5)], [
            "temper", "temper", "later", "later", "temper", "temper"])
        self.assertEqual([answers["far", number] for number in (1, 2)], [("later", 4)] * 2)
        self.assertEqual(suspects(SHOP, log, 4, V), ((-1, ()), (0, ("pass", G)), (2, ("pass", B)), (3, ("pass", A))))

    def test_near_and_far_from_other_events(self):
        log = (("run", "p", A, "pass"), ("fresh", "p"), ("run", "q", B, "pass"), ("run", "p", B, "pass"), ("clear",), ("run", "p", V, "fail"))
        self.assertEqual(suspects(SHOP, log, 5, V), ((-1, ()), (3, ("pass", B)), (3, ("pass", G))))
        self.assertEqual([row[:2] for row in culprits(SHOP, log, 3, B)], [
            ("near", -1), ("near", 0), ("far", -1), ("far", 0), ("far", 1), ("far", 2), ("far", 3), ("far", 4)])

    def test_against_under_and_all_tempers(self):
        chance = random.Random(81)
        seen = []
        logs = [(SHOP, log) for log in told_logs(chance, 60)] + run_logs(chance, 50)
        for shop, log in logs:
            things = {letter[1] for _, _, letter in plain_letters(shop, log, ()) if letter[0] in ("pass", "fail")}
            some = [(thing, row[0]) for thing in sorted(things) for row in plain_samples(shop, log, (), thing)]
            for thing, event in chance.sample(some, min(len(some), 4)):
                found = culprits(shop, log, event, thing)
                right = plain_culprits(shop, log, event, thing)
                self.assertEqual([row[:2] for row in found], [row[:2] for row in right])
                deciding = set()
                for (where, number, answer), (_, _, held) in zip(found, right):
                    if held[0] == "later":
                        self.assertEqual(answer, held)
                        continue
                    self.assertEqual(answer, under(shop, log, thing, held))
                    self.assertTrue(shows_under(shop, log, thing, held, answer))
                    seen.append((answer[0], where, number == -1))
                    if answer[0] == "temper":
                        deciding.add((-1, ()) if number == -1 else origins(shop, log, event, thing)[where][number])
                    if len(plain_samples(shop, log, (), thing)) < 3 and len(held[2]) < 5:
                        self.assertEqual(answer[0] == "temper", has_temper(thing, plain_samples(shop, log, (), thing), held))
                self.assertEqual(suspects(shop, log, event, thing), tuple(sorted(deciding)))
        for kind in [(word, where, first) for word in ("temper", "clash") for where in ("near", "far") for first in (True, False)]:
            self.assertGreater(seen.count(kind), 10)


class ErrorsTest(unittest.TestCase):
    def test_bad_log(self):
        for value in [value for value in any_values() if value != ()] + [list(LOG), LOG * 6]:
            for event, thing in [(1, V), (None, []), (99, V)]:
                for call in (culprits, suspects):
                    assert_raises(self, BadLog, value, call, SHOP, value, event, thing)
                    assert_raises(self, BadLog, value, call, shop=SHOP, log=value, event=event, thing=thing)

    def test_no_world_ahead_of_not_told(self):
        for log in [NO_WORLD, NO_WORLD + (("run", "p", A, None),)]:
            for event, thing in [(0, V), (None, []), (99, V)]:
                for call in (culprits, suspects):
                    assert_raises(self, NoWorld, log, call, SHOP, log, event, thing)

    def test_not_told(self):
        for log, number in [(LOG + (("run", "p", V, None),), 6), ((("clear",), ("run", "p", A, None), ("run", "p", V, None)), 1),
                            ((("run", "p", A, None),) + LOG, 0)]:
            self.assertTrue(is_log(SHOP, log) and possible(SHOP, log))
            for event, thing in [(1, V), (6, V), (None, []), (number, A)]:
                for call in (culprits, suspects):
                    with self.assertRaises(NotTold) as caught:
                        call(SHOP, log, event, thing)
                    self.assertEqual((caught.exception.value, caught.exception.value.__class__), (number, int))

    def test_no_sample(self):
        log = LOG + (("run", "p", A, "cut"), ("gap", "p"))
        wrong = [(1, A), (2, V), (3, V), (4, V), (6, A), (7, A), (8, V), (-1, V), (5, G + (0,)), (0, V), (5, B), (30, V)]
        wrong += [(True, V), (1, ("v", True)), (False, A), (0, ("g", False)), (1, ["v", 1])]
        wrong += [(value, V) for value in any_values() if value.__class__ != int or value not in (1, 5)]
        wrong += [(1, value) for value in any_values()] + [(value, value) for value in any_values()]
        for event, thing in wrong:
            for call in (culprits, suspects):
                with self.assertRaises(NoSample) as caught:
                    call(SHOP, log, event, thing)
                found = caught.exception.value
                self.assertEqual((found.__class__, len(found)), (tuple, 2))
                self.assertIs(found[0], event)
                self.assertIs(found[1], thing)
        for event, thing in [(1, V), (5, V), (0, A), (0, G), (1, G), (5, G)]:
            self.assertTrue(culprits(SHOP, log, event, thing))
        self.assertRaises(NoSample, culprits, SHOP, (), 0, V)


if __name__ == "__main__":
    unittest.main()

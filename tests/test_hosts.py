"""Point 15: Host, its deeds, what it tells, back and copy; point 3 (b), (f), (g)."""

import random
import unittest

from spoilorder import errors
from spoilorder.blaming import blamed
from spoilorder.culprits import suspects
from spoilorder.errors import (
    BadChecks, BadLog, BadMost, BadOutcome, BadPrices, BadWorkers, Full, NoCheck, NoEvent, NoSample, NothingToUndo,
    NotTold, NoWorker, NoWorld)
from spoilorder.hosts import Host
from spoilorder.shops import Shop
from spoilorder.striking import forecast, possible
from tests.common import A, B, V, any_values, assert_raises, one_group, two_groups
from tests.plain_hosts import PlainHost, do_deed, random_deed

SHOP = one_group()
WORKERS = ("p", "q")


def a_host(deeds=(), shop=SHOP, workers=WORKERS):
    host = Host(shop, workers)
    for deed in deeds:
        do_deed(host, deed)
    return host


def told(host):
    """All that can be seen of a host, and of what can be taken back."""
    seen = []
    behind = host.copy()
    while True:
        seen.append((behind.log, behind.present, behind.left, tuple(behind)))
        try:
            behind.back()
        except NothingToUndo:
            return seen


class DeedsTest(unittest.TestCase):
    def agree(self, host, plain):
        self.assertEqual((host.log, host.present, host.left), (plain.log, plain.present, plain.left))
        self.assertEqual(tuple(iter(host)), host.log)
        self.assertTrue(host.shop == plain.shop and host.workers == plain.workers)

    def test_against_plain_calls(self):
        chance = random.Random(151)
        raised, done = set(), set()
        for round_of_deeds in range(120):
            shop = chance.choice((SHOP, two_groups()))
            workers = chance.choice((("p",), ("p", "q"), ("p", "pq", "q")))
            host, plain = Host(shop, workers), PlainHost(shop, workers)
            for _ in range(chance.choice((5, 15, 45))):
                deed = random_deed(chance, shop, workers, len(plain.log))
                refusal = plain.refusal(deed)
                if refusal is None:
                    self.assertEqual(do_deed(host, deed), plain.do(deed))
                    done.add(deed[0])
                else:
                    with self.assertRaises(refusal[0]) as caught:
                        do_deed(host, deed)
                    self.assertEqual(caught.exception.value, refusal[1])
                    raised.add((deed[0], refusal[0]))
                self.agree(host, plain)
            if round_of_deeds % 3 == 0:
                self.answers(chance, host, plain)
        self.assertEqual(done, {"run", "tell", "fresh", "clear", "gap", "change", "begin", "back"})
        self.assertLessEqual(
            {("run", BadOutcome), ("run", Full), ("fresh", Full), ("tell", NoEvent), ("back", NothingToUndo)}, raised)

    def answers(self, chance, host, plain):
        """What a host answers, beside plain calls of the log that it should have."""
        log, shop = plain.log, plain.shop
        self.assertEqual(host.possible(), possible(shop, log))
        self.assertEqual(host.forecast(), forecast(shop, log))
        found = plain.next(plain.workers[0], shop.checks[:2])
        if found[0] == "found":
            self.assertEqual(host.next(plain.workers[0], shop.checks[:2]), found[1])
        else:
            assert_raises(self, found[0], host.log if found[0] != BadChecks else None, host.next, plain.workers[0],
                          shop.checks[:2])
        for number, event in enumerate(log[:8]):
            if event[0] != "run":
                assert_raises(self, NoEvent, number, host.suspects, number)
                continue
            try:
                right = suspects(shop, log, number, event[2])
            except errors.SpoilError as error:
                with self.assertRaises(error.__class__) as caught:
                    host.suspects(number)
                self.assertEqual(caught.exception.value, error.value)
            else:
                self.assertEqual(host.suspects(number), right)
        if len(log) <= 16 and len([event for event in log if event[-1] is None]) <= 1:
            self.assertEqual(host.blamed((2, 3, 1, 4), 4), blamed(shop, log, (2, 3, 1, 4), 4))

    def test_what_deeds_return(self):
        host = a_host()
        self.assertEqual([host.fresh("p"), host.clear(), host.gap("q"), host.change("a"), host.begin(("a",))], [None] * 5)
        self.assertEqual([host.run("p", "a"), host.run("q", "a", "pass"), host.run("p", "v", None)], [3, 4, 5])
        self.assertEqual([host.tell(3, "fail"), host.back(), host.run("p", "b", outcome="cut")], [None, None, 6])
        self.assertEqual(host.log, (
            ("fresh", "p"), ("clear",), ("gap", "q"), ("run", "p", ("a", 2), None), ("run", "q", ("a", 2), "pass"),
            ("run", "p", V, None), ("run", "p", B, "cut")))

    def test_by_name(self):
        host = Host(shop=SHOP, workers=WORKERS)
        host.fresh(worker="p")
        host.gap(worker="q")
        host.begin(checks=("a", "v"))
        host.change(check="b")
        self.assertEqual(host.run(check="a", worker="p", outcome="pass"), 2)
        host.tell(outcome="fail", event=2)
        self.assertEqual(host.left, ("a", "v"))
        self.assertEqual(host.next(checks=("a",), worker="q"), None)
        self.assertEqual(host.blamed(most=1, prices=(1, 1, 1, 1))[0], "reasons")
        self.assertEqual(host.suspects(event=2), suspects(SHOP, host.log, 2, A))
        self.assertEqual(host.forecast(events=(("run", "p", A, None),)), host.forecast((("run", "p", A, None),)))

    def test_properties(self):
        host = a_host(shop=two_groups(), workers=("p", "q", "r"))
        self.assertTrue(host.shop == two_groups())
        self.assertEqual((host.workers, host.log, host.left), (("p", "q", "r"), (), ()))
        self.assertEqual(host.present, (("a", 1), ("b", 1), ("v", 1), ("w", 1)))
        for name in ("shop", "workers", "log", "present", "left"):
            self.assertIsInstance(vars(Host)[name], property)

    def test_the_present_edition_runs(self):
        host = a_host((("change", "a"), ("change", "a"), ("run", "p", "a", "pass"), ("change", "a")))
        self.assertEqual(host.log, (("run", "p", ("a", 3), "pass"),))
        self.assertEqual(host.present, (("a", 4), ("b", 1), ("v", 1)))
        host.back()
        host.back()
        self.assertEqual(host.present[0], ("a", 3))

    def test_iterated_as_a_list(self):
        host = a_host((("run", "p", "a", "pass"), ("clear",)))
        self.assertEqual([event[0] for event in host], ["run", "clear"])
        self.assertIn(("clear",), host)
        self.assertEqual(list(iter(a_host())), [])


class RoundsTest(unittest.TestCase):
    def test_left(self):
        host = a_host((("run", "p", "a", "pass"),))
        self.assertEqual(host.left, ())
        host.begin(("a", "v"))
        self.assertEqual(host.left, ("a", "v"))
        for outcome in ("fail", "cut", None):
            host.run("p", "a", outcome)
            self.assertEqual(host.left, ("a", "v"))
        host.run("q", "v", "skip")
        host.run("p", "b", "pass")
        self.assertEqual(host.left, ("a", "v"))
        host.run("q", "a", "pass")
        self.assertEqual(host.left, ("v",))
        host.run("q", "v", "pass")
        self.assertEqual(host.left, ())

    def test_told_late(self):
        host = a_host((("begin", ("a", "b")), ("run", "p", "a"), ("run", "p", "b", "pass")))
        self.assertEqual(host.left, ("a",))
        host.tell(0, "pass")
        self.assertEqual(host.left, ())
        host.tell(1, "fail")
        self.assertEqual(host.left, ("b",))
        host.back()
        host.back()
        self.assertEqual(host.left, ("a",))

    def test_told_of_a_run_ahead_of_the_round(self):
        host = a_host((("run", "p", "a"), ("begin", ("a",)), ("tell", 0, "pass")))
        self.assertEqual(host.left, ("a",))

    def test_changes(self):
        host = a_host((("begin", ("a", "b")), ("run", "p", "a", "pass"), ("run", "p", "b", "pass")))
        self.assertEqual(host.left, ())
        host.change("a")
        self.assertEqual(host.left, ("a",))
        host.run("p", "a", "pass")
        self.assertEqual(host.left, ())
        host.back()
        host.back()
        self.assertEqual(host.left, ())

    def test_a_second_round(self):
        host = a_host((("begin", ("a", "b")), ("run", "p", "a", "pass"), ("begin", ("a", "v"))))
        self.assertEqual(host.left, ("a", "v"))
        host.run("p", "v", "pass")
        self.assertEqual(host.left, ("a",))
        host.back()
        host.back()
        self.assertEqual(host.left, ("b",))


class ErrorsTest(unittest.TestCase):
    def refused(self, error, value, host, deed):
        """Asserts that the deed is refused, and the host is as it was, what can be taken back, too."""
        before, twin = told(host), host.copy()
        assert_raises(self, error, value, *([getattr(host, deed[0])] + list(deed[1:])))
        self.assertEqual(told(host), before)
        self.assertTrue(host == twin)

    def names_of_others(self):
        return any_values() + ["r", "P", "pq", ("p",), ["p"]]

    def test_workers_of_the_host(self):
        wrong = any_values() + [
            (), ("q", "p"), ("p", "p"), ("a", "b", "c", "d"), ("P",), ("p", 1), ["p"], "p", ("abcdefghi",), ("",), {"p": 1}]
        for workers in wrong:
            if workers != ("x",):
                assert_raises(self, BadWorkers, workers, Host, SHOP, workers)
        for workers in (("p",), ("abcdefgh",), ("a", "b", "c")):
            self.assertEqual(Host(SHOP, workers).workers, workers)

    def test_no_worker(self):
        host = a_host((("run", "p", "a", "pass"),))
        for worker in self.names_of_others():
            for deed in (("fresh", worker), ("gap", worker), ("run", worker, "zz", 5)):
                self.refused(NoWorker, worker, host, deed)
            self.refused(NoWorker, worker, host, ("next", worker, ("b", "a")))

    def test_no_check(self):
        host = a_host((("run", "p", "a", "pass"),))
        for check in self.names_of_others() + ["g", A]:
            self.refused(NoCheck, check, host, ("run", "p", check, 7))
            self.refused(NoCheck, check, host, ("change", check))

    def test_bad_outcome(self):
        host = a_host((("run", "p", "a", "pass"), ("run", "q", "a")))
        for outcome in [value for value in any_values() if value not in ("pass", None)] + ["skipped", "told", True]:
            self.refused(BadOutcome, outcome, host, ("run", "p", "a", outcome))
            self.refused(BadOutcome, outcome, host, ("tell", 0, outcome))
        self.refused(BadOutcome, None, host, ("tell", 0, None))
        self.refused(BadOutcome, None, host, ("tell", 1, None))

    def test_a_skip_in_an_open_group(self):
        host = a_host((("run", "p", "a", "pass"),))
        self.refused(BadOutcome, "skip", host, ("run", "p", "v", "skip"))
        host.run("q", "v", "skip")
        host.run("q", "v", "skip")
        host.run("q", "v", "pass")
        self.refused(BadOutcome, "skip", host, ("run", "q", "v", "skip"))
        # Told otherwise, the run at event 1 would have opened the group in which event 2 was skipped.
        for outcome in ("pass", "fail", "cut"):
            self.refused(BadOutcome, outcome, host, ("tell", 1, outcome))
        host.tell(2, "pass")
        host.tell(3, "pass")
        host.tell(1, "skip")
        # A skip hangs on what is not told yet.
        other = a_host((("run", "p", "a"), ("run", "p", "v", "skip")))
        self.assertEqual(other.possible(), (("skip",),))
        self.refused(BadOutcome, "pass", other, ("tell", 0, "pass"))

    def test_thirty_events(self):
        for deeds in ([("clear",)] * 30, [("run", "p", "a", "pass")] * 30, [("gap", "q"), ("fresh", "p")] * 15):
            host = a_host(deeds)
            self.assertEqual(len(host.log), 30)
            for deed in (("fresh", "p"), ("clear",), ("gap", "q"), ("run", "p", "a", "fail"), ("run", "p", "v")):
                self.refused(Full, host.log, host, deed)
            self.refused(Full, host.log, host, ("next", "p", ("a",)))
            # What is no outcome comes first, and so does what the log does not let.
            self.refused(BadOutcome, "no", host, ("run", "p", "a", "no"))
            host.change("v")
            host.begin(("v",))
            host.back()
            host.back()
            host.back()
            self.assertIsNone(host.clear())
        host = a_host([("run", "p", "a", "pass")] * 30)
        self.refused(BadOutcome, "skip", host, ("run", "p", "v", "skip"))

    def test_five_items(self):
        host = a_host([deed for _ in range(5) for deed in (("run", "p", "a", "pass"), ("change", "a"))])
        self.refused(Full, host.log, host, ("run", "p", "a", "pass"))
        self.refused(Full, host.log, host, ("run", "p", "v", None))
        self.refused(Full, host.log, host, ("next", "p", ("v",)))
        self.assertIsNone(host.fresh("p"))
        shop = Shop((("g", ("a", "b")), ("h", ("c", "d", "e"))))
        host = a_host([("run", "p", check, "pass") for check in "abcde"], shop)
        self.assertEqual(host.run("p", "a", "fail"), 5)
        host.change("e")
        self.refused(Full, host.log, host, ("next", "p", ("a", "e")))
        self.assertEqual(host.next("q", ("a", "b", "c", "d")), None)

    def test_three_outcomes_not_told(self):
        host = a_host([("run", "p", "a"), ("run", "p", "a"), ("run", "q", "v")])
        self.refused(Full, host.log, host, ("run", "p", "a"))
        self.refused(Full, host.log, host, ("run", "p", "a", None))
        self.refused(Full, host.log, host, ("next", "p", ("a",)))
        self.assertEqual(host.run("p", "a", "fail"), 3)
        host.tell(2, "pass")
        self.assertEqual(host.run("p", "v"), 4)

    def test_no_event(self):
        host = a_host((("fresh", "p"), ("clear",), ("gap", "p"), ("run", "p", "a", "pass"), ("run", "p", "a")))
        wrong = [value for value in any_values() if not (value.__class__ == int and value in (3, 4))]
        for event in wrong + [0, 1, 2, 5, -1, -2, True, False, "3", (3,)]:
            self.refused(NoEvent, event, host, ("tell", event, "no"))
            self.refused(NoEvent, event, host, ("suspects", event))

    def test_edition_nine(self):
        host = a_host([("run", "p", "a", "pass")] + [("change", "a")] * 8)
        self.assertEqual(host.present[0], ("a", 9))
        self.refused(Full, host.log, host, ("change", "a"))
        self.assertEqual(host.run("p", "a", "pass"), 1)
        self.assertEqual(host.log[-1], ("run", "p", ("a", 9), "pass"))
        self.assertIsNone(host.change("b"))

    def test_bad_checks(self):
        host = a_host((("begin", ("a",)),))
        wrong = any_values() + [
            (), ("b", "a"), ("a", "a"), ("a", "z"), ("g",), (A,), ["a"], "a", "abv", ("a", None), ("a", "b", "v", "w"), (1,)]
        for checks in wrong:
            self.refused(BadChecks, checks, host, ("begin", checks))
            self.refused(BadChecks, checks, host, ("next", "p", checks))

    def test_nothing_to_undo(self):
        host = a_host()
        self.refused(NothingToUndo, None, host, ("back",))
        host.clear()
        host.back()
        self.refused(NothingToUndo, None, host, ("back",))


class AnswersTest(unittest.TestCase):
    def test_forecast_of_events(self):
        host = a_host((("run", "p", "a", "pass"), ("run", "p", "v"), ("fresh", "p"), ("clear",)))
        run = ("run", "p", A, None)
        self.assertEqual(host.forecast(), forecast(SHOP, host.log))
        self.assertEqual(host.forecast(()), host.forecast())
        self.assertEqual(host.forecast((run,)), (("pass",),))
        self.assertEqual(host.forecast(events=(run, run))[0], ("pass",))
        self.assertEqual(host.forecast((("gap", "q"),)), ())
        self.assertEqual(host.forecast((("run", "r", V, None), ("run", "r", V, "pass"))),
                         forecast(SHOP, host.log + (("run", "r", V, None), ("run", "r", V, "pass")))[1:])

    def test_forecast_without_a_world(self):
        host = a_host((("run", "p", "a", "pass"), ("clear",), ("fresh", "p"), ("run", "p", "a", "fail"), ("run", "q", "v")))
        self.assertEqual((host.possible(), host.forecast()), ((), ((),)))
        self.assertEqual(host.forecast((("run", "q", B, None), ("run", "q", B, None))), ((), ()))

    def test_forecast_errors(self):
        host = a_host((("run", "p", "a", "pass"), ("run", "p", "v")))
        run = ("run", "p", A, None)
        for events in any_values():
            if isinstance(events, tuple) and events:
                with self.assertRaises(BadLog) as caught:
                    host.forecast(events)
                self.assertEqual(caught.exception.value, host.log + events)
            elif events != ():
                assert_raises(self, BadLog, events, host.forecast, events)
        for events in ((run,) * 3, (("clear",),) * 29, (("run", "p", A, "skip"),), ((),), (run, "run"),
                       (("fresh", "r"), ("fresh", "s"), ("gap", "t"))):
            with self.assertRaises(BadLog) as caught:
                host.forecast(events)
            self.assertEqual(caught.exception.value, host.log + events)

    def test_suspects(self):
        deeds = [("run", "p", "a", "pass"), ("run", "q", "v", "fail"), ("clear",), ("fresh", "p"), ("fresh", "q")]
        host = a_host(deeds + [("run", "q", "v", "pass")])
        self.assertEqual(host.suspects(1), ((0, ("pass", A)),))
        assert_raises(self, NoEvent, 2, host.suspects, 2)
        host.run("p", "v", "cut")
        with self.assertRaises(NoSample) as caught:
            host.suspects(6)
        self.assertEqual(caught.exception.value, (6, V))
        host.run("p", "v")
        with self.assertRaises(NotTold) as caught:
            host.suspects(6)
        self.assertEqual(caught.exception.value, 7)
        host.tell(7, "pass")
        for deed in (("fresh", "p"), ("clear",), ("run", "p", "v", "fail")):
            do_deed(host, deed)
        assert_raises(self, NoWorld, host.log, host.suspects, 6)
        assert_raises(self, NoEvent, 2, host.suspects, 2)

    def test_blamed(self):
        host = a_host((("run", "p", "v", "pass"), ("clear",), ("fresh", "p"), ("run", "p", "v", "fail")))
        for prices, most in (((3, 1, 2, 9), 9), ((9, 9, 9, 2), 1), ((1, 1, 1, 1), 27)):
            self.assertEqual(host.blamed(prices, most), blamed(SHOP, host.log, prices, most))
        for prices in any_values():
            assert_raises(self, BadPrices, prices, host.blamed, prices, 99)
        assert_raises(self, BadMost, 28, host.blamed, (1, 1, 1, 1), 28)
        for _ in range(13):
            host.clear()
        assert_raises(self, Full, host.log, host.blamed, (1, 1, 1, 1), 27)

    def test_next(self):
        host = a_host()
        self.assertIsNone(host.next("p", ("a", "b", "v")))
        host = a_host((("run", "p", "b", "pass"), ("run", "p", "a", "pass"), ("clear",), ("fresh", "p")))
        self.assertEqual(host.next("p", ("a", "b", "v")), "b")
        self.assertEqual(host.next("q", ("a", "b", "v")), "b")
        self.assertIsNone(host.next("p", ("a", "v")))
        host.change("b")
        self.assertIsNone(host.next("p", ("a", "b", "v")))
        host = a_host((("run", "p", "v", "pass"), ("clear",), ("fresh", "p"), ("run", "p", "a", "pass"), ("clear",), ("fresh", "p")))
        self.assertEqual(host.next("p", ("a", "b", "v")), "a")

    def test_next_raises_in_this_sequence(self):
        no_world = [("run", "p", "a", "pass"), ("clear",), ("fresh", "p"), ("run", "p", "a", "fail")]
        host = a_host(no_world + [("clear",)] * 26)
        assert_raises(self, NoWorker, "z", host.next, "z", ())
        assert_raises(self, BadChecks, ("b", "a"), host.next, "p", ("b", "a"))
        assert_raises(self, NoWorld, host.log, host.next, "p", ("a",))
        host = a_host([("clear",)] * 30)
        assert_raises(self, Full, host.log, host.next, "p", ("a",))
        host = a_host(no_world)
        assert_raises(self, NoWorld, host.log, host.next, "q", ("v",))

    def test_what_passes_surely_passes_in_all_fillings(self):
        host = a_host((("run", "p", "a", "pass"), ("run", "p", "a"), ("clear",), ("fresh", "p")))
        self.assertEqual(host.next("p", ("a", "b")), "a")
        self.assertIsNone(host.next("p", ("b",)))
        self.assertEqual(host.forecast((("run", "p", A, None),)), (("pass",),))


class BackTest(unittest.TestCase):
    def test_through_all_deeds(self):
        chance = random.Random(152)
        for _ in range(40):
            host, plain, before = Host(SHOP, WORKERS), PlainHost(SHOP, WORKERS), []
            while len(before) < 25:
                deed = random_deed(chance, SHOP, WORKERS, len(plain.log))
                if deed[0] != "back" and plain.refusal(deed) is None:
                    before.append((host.log, host.present, host.left, host.copy()))
                    do_deed(host, deed)
                    plain.do(deed)
            for log, present, left, twin in reversed(before):
                host.back()
                self.assertEqual((host.log, host.present, host.left), (log, present, left))
                self.assertTrue(host == twin)
            assert_raises(self, NothingToUndo, None, host.back)
            self.assertEqual(host.run("p", "a", "pass"), 0)
            self.assertTrue(host == a_host((("run", "p", "a", "pass"),)))

    def test_refused_deeds_are_none(self):
        host = a_host((("run", "p", "a", "pass"),))
        for deed in (("run", "p", "a", "skip"), ("tell", 1, "pass"), ("begin", ()), ("fresh", "r"), ("change", "z")):
            self.assertRaises(errors.SpoilError, do_deed, host, deed)
        host.back()
        self.assertEqual(host.log, ())


class CopyTest(unittest.TestCase):
    def test_goes_on_by_itself(self):
        host = a_host((("begin", ("a", "b")), ("run", "p", "a", "pass"), ("change", "v")))
        twin = host.copy()
        self.assertIsInstance(twin, Host)
        self.assertTrue(twin == host)
        self.assertEqual(told(twin), told(host))
        twin.run("p", "b", "pass")
        self.assertEqual((host.left, twin.left, len(host.log)), (("b",), (), 1))
        self.assertFalse(twin == host)
        host.back()
        host.back()
        self.assertEqual((host.log, len(twin.log), twin.present[2]), ((), 2, ("v", 2)))
        host.run("q", "v", "fail")
        self.assertEqual(twin.log[0], ("run", "p", A, "pass"))

    def test_equal(self):
        deeds = (("run", "p", "a"), ("tell", 0, "pass"))
        self.assertTrue(a_host(deeds) == a_host(deeds))
        # The same log by other deeds.
        self.assertEqual(a_host(deeds).log, a_host((("run", "p", "a", "pass"),)).log)
        self.assertFalse(a_host(deeds) == a_host((("run", "p", "a", "pass"),)))
        self.assertFalse(a_host() == a_host((("begin", ("a",)),)))
        self.assertFalse(a_host((("begin", ("a",)),)) == a_host((("begin", ("b",)),)))
        self.assertFalse(a_host(workers=("p",)) == a_host(workers=("p", "q")))
        self.assertFalse(a_host(shop=SHOP) == a_host(shop=two_groups()))
        host = a_host(deeds)
        host.back()
        self.assertTrue(host == a_host(deeds[:1]))
        self.assertTrue(a_host(deeds) != a_host())
        for value in any_values() + [SHOP, a_host().log, deeds]:
            self.assertFalse(a_host() == value)


if __name__ == "__main__":
    unittest.main()

"""Point 19: Desk; point 3 (g)."""

import random
import unittest

from spoilorder.desks import Desk
from spoilorder.errors import (
    BadChecks, BadLine, BadMost, BadOutcome, BadPrices, BadShop, BadText, BadWorkers, Full, NoCheck, NoEvent, NoLetter,
    NoSample, NothingToUndo, NoThing, NotTold, NoWorker, NoWorld, SpoilError)
from spoilorder.hosts import Host
from spoilorder.reading import read_host
from spoilorder.showing import show_host
from tests.common import V, any_values
from tests.plain_desks import LINES, plain_say
from tests.plain_texts import bent_lines, matched
from tests.test_hosts import told

START = "workers p q\ngroup g a b v"
TWO = "workers p q\ngroup g a b\ngroup h v w"
# Behind a, v fails; alone it passes.
SPOILT = ("run p a pass", "run q v fail", "clear", "fresh p", "fresh q", "run q v pass")
NO_WORLD = ("run p v pass", "clear", "fresh p", "run p v fail")
LETTERS = ("pass a 1", "fail b 1", "pass g", "fail g", "close g", "cut 2", "gap 29", "pass v 2", "close h", "cut 30")


def a_desk(lines=(), text=START):
    desk = Desk(text)
    for line in lines:
        desk.say(line)
    return desk


def random_line(chance, checks, many):
    worker, check, other = chance.choice("ppqr"), chance.choice(checks), chance.choice(checks)
    some = " ".join(sorted(chance.sample(checks, chance.randrange(1, len(checks)))))
    outcome = chance.choice(("pass", "pass", "pass", "fail", "fail", "cut", "skip", "-"))
    number = chance.randrange(many + 2)
    return chance.choice([f"run {worker} {check} {outcome}"] * 10 + [f"tell {number} {outcome}"] * 2 + [
        f"fresh {worker}", f"fresh {worker}", "clear", "clear", f"gap {worker}", f"change {check}", f"begin {some}", "back",
        "left", "present", "world", "can", "log", f"next {worker} {some}", f"kinds {check} 1 {chance.choice(LETTERS)}",
        f"where {check} {chance.choice('112')}", f"why {number}", f"why {number}", f"next {worker} {other} {check}",
        "blame 2 1 3 4 3", "blame 9 9 9 1 4", "blame 1 1 1 1 1", "blame 1 1 1 10 0", "blame 1 1 1 1 28"])


class SayTest(unittest.TestCase):
    def says(self, desk, rows):
        for line, answer in rows:
            found = desk.say(line)
            self.assertEqual((found, found.__class__), (answer, str), line)

    def test_deeds(self):
        desk = Desk(START)
        self.says(desk, [
            ("fresh p", "ok"), ("clear", "ok"), ("gap q", "ok"), ("run p a pass", "3"), ("run q b -", "4"), ("tell 4 fail", "ok"),
            ("change a", "ok"), ("begin a b", "ok"), ("run p v cut", "5"), ("back", "ok")])
        self.assertEqual(show_host(desk.host), START + "\n" + "\n".join([
            "fresh p", "clear", "gap q", "run p a pass", "run q b -", "tell 4 fail", "change a", "begin a b"]))

    def test_left_and_present(self):
        desk = Desk(START)
        self.says(desk, [
            ("left", "-"), ("present", "a 1, b 1, v 1"), ("begin a b v", "ok"), ("left", "a, b, v"), ("run p b pass", "0"),
            ("left", "a, v"), ("change b", "ok"), ("left", "a, b, v"), ("present", "a 1, b 2, v 1"), ("run p b pass", "1"),
            ("run p a pass", "2"), ("left", "v"), ("run q v pass", "3"), ("left", "-"), ("back", "ok"), ("left", "v")])

    def test_world(self):
        self.says(Desk(START), [("world", "yes")])
        self.says(a_desk(NO_WORLD), [("world", "no"), ("back", "ok"), ("world", "yes")])

    def test_can(self):
        desk = Desk(START)
        self.says(desk, [
            ("can", "-"), ("run p a -", "0"), ("can", "0 fail pass skip"), ("run p b -", "1"),
            ("can", "0 fail pass skip; 1 fail pass skip"), ("tell 0 pass", "ok"), ("can", "1 fail pass"), ("clear", "ok"),
            ("fresh p", "ok"), ("run p a -", "4"), ("can", "1 fail pass; 4 pass")])
        self.says(a_desk(NO_WORLD + ("run p a -", "run q b -")), [("can", "4; 5")])

    def test_next(self):
        desk = a_desk(("run p b pass", "run p a pass", "clear", "fresh p"))
        self.says(desk, [("next p a b v", "b"), ("next p a v", "-"), ("next q b", "b"), ("change b", "ok"), ("next p a b v", "-")])

    def test_kinds_and_where(self):
        # Of b nothing is known.
        self.says(a_desk(SPOILT), [
            ("kinds v 1 pass a 1", "spoils"), ("where v 1", "far"), ("kinds a 1 close g", "idle mends spoils"),
            ("kinds b 9 gap 29", "idle mends spoils"), ("where b 9", "far near"), ("kinds v 1 cut 0", "idle mends spoils"),
            ("kinds v 1 fail g", "idle mends spoils")])
        desk = a_desk(SPOILT)
        for line in ("kinds v 1 pass g", "kinds v 1 fail v 1", "where a 1", "kinds a 1 pass g"):
            self.assertEqual(desk.say(line), plain_say(desk.host.copy(), line))

    def test_why(self):
        self.says(a_desk(SPOILT), [("why 1", "0 pass a 1")])
        self.says(a_desk(("run p a pass", "run p a pass")), [("why 0", "first; 0 pass g"), ("why 1", "first; 0 pass a 1; 0 pass g")])
        self.says(a_desk(("run p a pass",), TWO), [("run p v fail", "1")])
        desk = a_desk(("run p a pass", "run p v fail"), TWO)
        self.says(desk, [("why 1", plain_say(desk.host.copy(), "why 1"))])
        self.assertIn("1 close g", desk.say("why 1"))

    def test_blame(self):
        editions = ("run p a pass", "run p v pass", "clear", "fresh p", "change a", "run p a pass", "run p v fail")
        desk = a_desk(editions)
        self.says(desk, [
            ("blame 3 1 2 3 9", "1: leaves a 2"), ("blame 3 2 2 3 1", "more"), ("blame 9 9 9 9 0", "more")])
        desk = a_desk(("run p v pass", "clear", "fresh p", "change v", "run p v fail"))
        self.says(desk, [("blame 9 9 2 9 27", "2: feels v 2"), ("blame 9 9 9 4 27", "4: wild v 1 first")])
        self.says(a_desk(SPOILT), [("blame 1 1 1 1 27", "0"), ("blame 1 1 1 1 0", "0")])
        self.says(a_desk(("run p v skip", "clear", "fresh p", "run p v pass")), [("blame 1 1 1 2 9", "2: wild g first")])
        parted = ("run p v pass", "clear", "fresh p", "change v", "run p v fail", "clear", "fresh p", "change v", "run p v pass")
        self.says(a_desk(parted), [("blame 9 9 1 9 27", "2: feels v 2; feels v 3")])
        desk = a_desk(("run p v pass", "clear", "fresh p", "run p v fail"))
        self.assertIn(desk.say("blame 2 9 9 9 9"), ("2: lie 0", "2: lie 3"))

    def test_log(self):
        desk = Desk(START)
        self.says(desk, [
            ("log", "-"), ("clear", "ok"), ("log", "clear"), ("run q a -", "1"), ("change b", "ok"), ("run p b cut", "2"),
            ("gap p", "ok"), ("fresh q", "ok"), ("log", "clear; run q a 1 -; run p b 2 cut; gap p; fresh q")])

    def test_host(self):
        text = START + "\nrun p a pass\nbegin a"
        desk = Desk(text=text)
        self.assertIsInstance(vars(Desk)["host"], property)
        self.assertIsInstance(desk.host, Host)
        self.assertTrue(desk.host == read_host(text))
        desk.say(line="run p b fail")
        self.assertEqual(len(desk.host.log), 2)
        # It is the desk's own host: what is done to it is seen by the desk.
        desk.host.clear()
        self.assertEqual(desk.say("log"), "run p a 1 pass; run p b 1 fail; clear")

    def test_a_desk_beside_a_host(self):
        """The same lines to a host: the same answers and errors, the same log, an equal host."""
        chance = random.Random(191)
        answered, raised = set(), set()
        for _ in range(70):
            text = chance.choice((START, TWO))
            desk, host = Desk(text), read_host(text)
            checks = list(host.shop.checks)
            for _ in range(35):
                line = random_line(chance, checks, len(host.log))
                try:
                    right = plain_say(host, line)
                except SpoilError as error:
                    before = told(desk.host)
                    with self.assertRaises(error.__class__) as caught:
                        desk.say(line)
                    self.assertEqual(repr(caught.exception.value), repr(error.value))
                    self.assertEqual(told(desk.host), before)
                    raised.add(error.__class__)
                else:
                    self.assertEqual(desk.say(line), right, line)
                    answered.add(line.split(" ")[0])
                self.assertTrue(desk.host == host)
            self.assertEqual((desk.host.log, show_host(desk.host)), (host.log, show_host(host)))
        self.assertEqual(answered, set(LINES))
        self.assertLessEqual(
            {NoWorker, BadOutcome, NoEvent, NoLetter, NoSample, NotTold, NoWorld, BadPrices, BadMost, BadChecks}, raised)


class RaisesTest(unittest.TestCase):
    def raises(self, error, value, desk, line):
        before = told(desk.host)
        with self.assertRaises(error) as caught:
            desk.say(line)
        self.assertEqual(repr(caught.exception.value), repr(value), line)
        self.assertEqual(told(desk.host), before)

    def test_any_values(self):
        desk = a_desk(SPOILT)
        for value in any_values():
            before = told(desk.host)
            with self.assertRaises(BadLine) as caught:
                desk.say(value)
            self.assertIs(caught.exception.value, value)
            self.assertEqual(told(desk.host), before)

    def test_lines_bent(self):
        seen = {True: 0, False: 0}
        lines = ["fresh p", "clear", "gap q", "run p a pass", "tell 0 fail", "change b", "begin a v", "back", "left", "present",
                 "world", "can", "log", "next p a b", "kinds v 1 pass a 1", "kinds v 1 pass g", "kinds v 1 close g",
                 "kinds v 1 cut 3", "kinds v 1 gap 0", "where v 1", "why 1", "blame 1 2 3 4 5"]
        for line in lines:
            for bent in bent_lines(line):
                desk, host = a_desk(SPOILT), a_desk(SPOILT).host
                right = matched(LINES, bent) is not None
                seen[right] += 1
                if not right:
                    self.raises(BadLine, bent, desk, bent)
                    continue
                try:
                    answer = plain_say(host, bent)
                except SpoilError as error:
                    self.raises(error.__class__, error.value, desk, bent)
                else:
                    self.assertEqual(desk.say(bent), answer)
                    self.assertTrue(desk.host == host)
        self.assertGreater(min(seen.values()), 100)

    def test_lines_that_are_none(self):
        for line in ("", " ", "-", "ok", "workers p q", "group g a", "back 1", "left a", "log\nlog", "clear\nclear", "clear\n", "\n",
                     "next p", "next", "kinds v 1", "kinds v pass a 1", "kinds v 0 pass a 1", "where g", "where v 0", "where v",
                     "why", "why -1", "why 01", "why 1 2", "why first", "blame 1 1 1 1", "blame 1 1 1 1 1 1", "blame 1 1 1 1 -1",
                     "blame a b c d e", "run p a 1 pass", "run p a told", "run p a None", "tell 0", "tell 0 - -", "begin", "change",
                     "possible", "forecast", "copy", "trial", "Back", "why 1234567890", "kinds v 1 first", "next p a B"):
            self.raises(BadLine, line, a_desk(SPOILT), line)

    def test_errors_passed_on(self):
        desk = a_desk(SPOILT)
        for line, error, value in (
                ("fresh r", NoWorker, "r"), ("gap r", NoWorker, "r"), ("run r a pass", NoWorker, "r"), ("run p z pass", NoCheck, "z"),
                ("tell 0 -", BadOutcome, None), ("tell 2 pass", NoEvent, 2), ("tell 77 pass", NoEvent, 77), ("change z", NoCheck, "z"),
                ("begin v a", BadChecks, ("v", "a")), ("next r z", NoWorker, "r"), ("next p z", BadChecks, ("z",)),
                ("kinds z 1 pass a 1", NoThing, ("z", 1)), ("kinds v 10 pass a 1", NoThing, ("v", 10)),
                ("kinds v 1 pass z 1", NoLetter, ("pass", ("z", 1))), ("kinds v 1 pass a 12", NoLetter, ("pass", ("a", 12))),
                ("kinds v 1 pass h", NoLetter, ("pass", ("h", 0))), ("kinds v 1 close h", NoLetter, ("close", "h")),
                ("kinds v 1 cut 30", NoLetter, ("cut", 30)), ("where g 1", NoThing, ("g", 1)), ("where v 999999999", NoThing, (
                    "v", 999999999)), ("blame 0 1 1 1 1", BadPrices, (0, 1, 1, 1)), ("blame 1 1 1 10 99", BadPrices, (1, 1, 1, 10)),
                ("blame 1 1 1 1 28", BadMost, 28), ("why 2", NoSample, (2, None)), ("why 6", NoSample, (6, None)),
                ("why 999999999", NoSample, (999999999, None))):
            self.raises(error, value, desk, line)
        self.raises(NothingToUndo, None, Desk(START), "back")
        skip = a_desk(("run p a pass",))
        self.raises(BadOutcome, "skip", skip, "run p v skip")
        full = a_desk(("clear",) * 30)
        for line in ("clear", "fresh p", "gap p", "run p a -", "next p a", "blame 1 1 1 1 1"):
            self.raises(Full, (("clear",),) * 30, full, line)

    def test_why_behind_no_world_and_not_told(self):
        desk = a_desk(NO_WORLD + ("run q a -",))
        log = desk.host.log
        self.raises(NoWorld, log, desk, "why 1")
        self.raises(NoWorld, log, desk, "why 0")
        for line in ("kinds v 1 pass a 1", "where v 1", "where z 1", "next p a"):
            self.raises(NoWorld, log, desk, line)
        desk = a_desk(("run p a pass", "run p v -", "clear"))
        for line in ("why 0", "why 1", "why 2", "why 50"):
            self.raises(NotTold, 1, desk, line)
        desk.say("tell 1 cut")
        self.raises(NoSample, (1, V), desk, "why 1")
        self.raises(NoSample, (2, None), desk, "why 2")

    def test_texts(self):
        for value in any_values() + ["workers p", "group g a", "workers p\ngroup g a\nno line"]:
            with self.assertRaises((BadText, BadShop)) as caught:
                Desk(value)
            self.assertIn(caught.exception.__class__, (BadText, BadShop))
        for text, error, told_value in (
                ("", BadText, 0), ("workers p", BadShop, ()), ("workers q p\ngroup g a", BadWorkers, ("q", "p")),
                ("workers p\ngroup g a\nback", BadText, 2), ("workers p\ngroup g a\nlog", BadText, 2),
                ("workers p\ngroup g a\nfresh q", NoWorker, "q"), ("workers p\ngroup g a\n", BadText, 2)):
            with self.assertRaises(error) as caught:
                Desk(text)
            self.assertEqual(list(vars(caught.exception).values()), [told_value])
        self.assertEqual(Desk(START + "\nrun p a pass").say("log"), "run p a 1 pass")


if __name__ == "__main__":
    unittest.main()

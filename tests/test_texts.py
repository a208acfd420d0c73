"""Point 18: show_ and read_ of shops, logs, worlds and hosts; point 3 (g)."""

import random
import unittest

from spoilorder.errors import (
    BadChecks, BadLog, BadOutcome, BadShop, BadText, BadWorkers, BadWorld, Full, NoCheck, NoEvent, NoWorker, SpoilError)
from spoilorder.hosts import Host
from spoilorder.logs import is_log
from spoilorder.reading import read_host, read_log, read_shop, read_world
from spoilorder.shops import Shop
from spoilorder.showing import show_host, show_log, show_shop, show_world
from spoilorder.worlds import World
from tests.common import A, B, G, H, V, a_world, any_values, assert_raises, one_group, two_groups
from tests.plain import random_events, random_world
from tests.plain_hosts import PlainHost, do_deed, random_deed
from tests.plain_texts import (
    HOST_LINES, LOG_LINES, WORLD_LINES, bent_lines, first_wrong, host_fits, plain_events, plain_read_host, plain_tempers,
    plain_world_text, split, world_fits)
from tests.test_hosts import a_host, told

SHOP = one_group()
SHOP_TEXT = "group g a b\ngroup h v w"
LOG = (("fresh", "p"), ("clear",), ("run", "p", A, "pass"), ("run", "q", ("v", 9), None), ("gap", "q"), ("run", "q", B, "fail"),
       ("run", "p", V, "cut"))
LOG_TEXT = "fresh p\nclear\nrun p a 1 pass\nrun q v 9 -\ngap q\nrun q b 1 fail\nrun p v 1 cut"
TEMPERS = (
    (A, "near", "pass", ((("close", "h"), "mends"), (("cut", 0), "spoils"), (("fail", A), "mends"), (("fail", G), "spoils"))),
    (G, "far", "fail", ((("gap", 29), "spoils"), (("pass", A), "mends"), (("pass", G), "mends"))),
    (H, "near", "fail", ()), (V, "far", "pass", ((("close", "g"), "spoils"),)))
WORLD_TEXT = "\n".join([
    "thing a 1 near pass", "mends close h", "spoils cut 0", "mends fail a 1", "spoils fail g", "opening g far fail",
    "spoils gap 29", "mends pass a 1", "mends pass g", "opening h near fail", "thing v 1 far pass", "spoils close g"])
DEEDS = (
    ("fresh", "p"), ("clear",), ("gap", "q"), ("run", "p", "a", "pass"), ("run", "q", "v", None), ("tell", 4, "skip"),
    ("change", "a"), ("begin", ("a", "v")), ("run", "q", "a", "cut"), ("run", "p", "b", "fail"), ("begin", ("b",)))
HOST_TEXT = "\n".join([
    "workers p q", "group g a b v", "fresh p", "clear", "gap q", "run p a pass", "run q v -", "tell 4 skip", "change a",
    "begin a v", "run q a cut", "run p b fail", "begin b"])


def random_host(chance, many):
    shop = chance.choice((SHOP, two_groups(), Shop((("one", ("x",)), ("twogroup", ("abcdefgh", "y"))))))
    workers = chance.choice((("p",), ("p", "q"), ("abcdefgh", "b", "q")))
    host, plain = Host(shop, workers), PlainHost(shop, workers)
    while len(plain.deeds) < many:
        deed = random_deed(chance, shop, workers, len(plain.log))
        if plain.refusal(deed) is None:
            do_deed(host, deed)
            plain.do(deed)
    return host


class ShowTest(unittest.TestCase):
    def test_shops(self):
        self.assertEqual(show_shop(two_groups()), SHOP_TEXT)
        self.assertEqual(show_shop(shop=SHOP), "group g a b v")
        for text in (SHOP_TEXT, "group g a", "group a b c d e\ngroup z y", "group one x\ngroup two y\ngroup v z"):
            self.assertEqual(show_shop(read_shop(text)), text)
        self.assertTrue(read_shop(text=SHOP_TEXT) == two_groups())

    def test_logs(self):
        self.assertEqual(show_log(SHOP, LOG), LOG_TEXT)
        self.assertEqual(read_log(SHOP, LOG_TEXT), LOG)
        self.assertEqual((show_log(SHOP, ()), read_log(SHOP, "")), ("", ()))
        skip = (("run", "p", A, "skip"),)
        self.assertEqual(show_log(log=skip, shop=SHOP), "run p a 1 skip")
        self.assertEqual(read_log(text="run p a 1 skip", shop=SHOP), skip)
        chance = random.Random(181)
        seen = 0
        while seen < 150:
            shop = chance.choice((SHOP, two_groups()))
            log = random_events(chance, shop, chance.randrange(12))
            if is_log(shop, log):
                self.assertEqual(read_log(shop, show_log(shop, log)), log)
                self.assertEqual(plain_events(split(show_log(shop, log))), log)
                seen += 1

    def test_what_is_no_log(self):
        for log in any_values() + [(("run", "p", ("v", 10), "pass"),), LOG * 5, (("run", "p", A, "pass"), ("run", "p", V, "skip"))]:
            if log != ():
                assert_raises(self, BadLog, log, show_log, SHOP, log)

    def test_worlds(self):
        world = World(two_groups(), TEMPERS)
        self.assertEqual(show_world(world), WORLD_TEXT)
        self.assertTrue(read_world(two_groups(), WORLD_TEXT) == world)
        self.assertEqual(show_world(World(SHOP, ())), "")
        self.assertTrue(read_world(shop=SHOP, text="") == World(SHOP, ()))
        chance = random.Random(182)
        for world in [random_world(chance, chance.choice((SHOP, two_groups()))) for _ in range(100)] + [a_world()]:
            self.assertEqual(show_world(world=world), plain_world_text(world))
            self.assertTrue(read_world(world.shop, show_world(world)) == world)

    def test_hosts(self):
        host = a_host(DEEDS)
        self.assertEqual(show_host(host), HOST_TEXT)
        self.assertTrue(read_host(HOST_TEXT) == host)
        self.assertEqual(show_host(host=Host(two_groups(), ("x",))), "workers x\n" + SHOP_TEXT)
        self.assertTrue(read_host(text="workers x\n" + SHOP_TEXT) == Host(two_groups(), ("x",)))
        chance = random.Random(183)
        for _ in range(80):
            host = random_host(chance, chance.randrange(25))
            text = show_host(host)
            behind = read_host(text)
            self.assertTrue(behind == host)
            self.assertTrue(plain_read_host(split(text)) == host)
            self.assertEqual(show_host(behind), text)
            # It has as much to take back, and goes on as the other one does.
            self.assertEqual(told(behind), told(host))
            self.assertEqual(behind.left, host.left)

    def test_what_was_taken_back_is_not_shown(self):
        host = a_host(DEEDS)
        for _ in range(4):
            host.back()
        self.assertEqual(show_host(host), "\n".join(HOST_TEXT.split("\n")[:-4]))
        with host.trial():
            host.clear()
            self.assertEqual(show_host(host).split("\n")[-1], "clear")
        self.assertEqual(show_host(host), "\n".join(HOST_TEXT.split("\n")[:-4]))


class BadTextTest(unittest.TestCase):
    def wrong(self, line, call, *args):
        with self.assertRaises(BadText) as caught:
            call(*args)
        self.assertEqual((caught.exception.line, caught.exception.line.__class__), (line, int), args)

    def calls(self):
        return [
            (SHOP_TEXT, read_shop, ()), (LOG_TEXT, read_log, (SHOP,)), (WORLD_TEXT, read_world, (two_groups(),)),
            (HOST_TEXT, read_host, ())]

    def test_no_string(self):
        for _, call, args in self.calls():
            for text in [value for value in any_values() if not isinstance(value, str)] + [["group g a"], ("clear",)]:
                self.wrong(0, call, *args, text)

    def test_the_empty_text(self):
        with self.assertRaises(BadShop) as caught:
            read_shop("")
        self.assertEqual(caught.exception.value, ())
        self.wrong(0, read_host, "")
        self.assertEqual((read_log(SHOP, ""), read_world(SHOP, "").tempers), ((), ()))

    def test_line_feeds(self):
        for text, call, args in self.calls():
            many = len(text.split("\n"))
            self.wrong(many, call, *args, text + "\n")
            self.wrong(0, call, *args, "\n" + text)
            self.wrong(1, call, *args, text.replace("\n", "\n\n", 1))
            self.wrong(0, call, *args, "\n")
            self.wrong(0, call, *args, text.replace("\n", "\r\n"))

    def test_lines_bent(self):
        """Each line bent at each place: the number of the first line of no form, or else what its value raises."""
        forms = {"read_shop": {"group": HOST_LINES["group"]}, "read_log": LOG_LINES, "read_world": WORLD_LINES}
        forms["read_host"] = HOST_LINES
        fits = {"read_host": host_fits, "read_world": world_fits}
        seen = {"wrong": 0, "right": 0}
        for text, call, args in self.calls():
            rows, name = text.split("\n"), call.__name__
            for place, row in enumerate(rows):
                for other in bent_lines(row):
                    bent = rows[:place] + [other] + rows[place + 1:]
                    number = first_wrong(forms[name], bent, fits.get(name, lambda number, word, ahead: True))
                    if number is not None:
                        self.wrong(number, call, *args, "\n".join(bent))
                        seen["wrong"] += 1
                    else:
                        self.same_as_values(name, bent, call, args)
                        seen["right"] += 1
        self.assertGreater(min(seen.values()), 100)

    def same_as_values(self, name, rows, call, args):
        """What the text gives or raises, beside what is written there, made by hand."""
        make = {
            "read_shop": lambda: Shop(tuple((row.split(" ")[1], tuple(row.split(" ")[2:])) for row in rows)),
            "read_log": lambda: plain_events(rows),
            "read_world": lambda: World(*args, plain_tempers(rows)),
            "read_host": lambda: plain_read_host(rows),
        }[name]
        try:
            right = make()
            if name == "read_log" and not is_log(*args, right):
                raise BadLog(right)
        except SpoilError as error:
            with self.assertRaises(error.__class__) as caught:
                call(*args, "\n".join(rows))
            self.assertEqual(repr(caught.exception.value), repr(error.value))
        else:
            self.assertTrue(call(*args, "\n".join(rows)) == right)

    def test_lines_that_stand_where_they_cannot(self):
        lines = HOST_TEXT.split("\n")
        self.wrong(2, read_host, "\n".join(lines[:2] + lines[:1] + lines[2:]))
        self.wrong(1, read_host, "\n".join(lines[:1] + lines))
        self.wrong(3, read_host, "\n".join(lines[:3] + ["group h w"] + lines[3:]))
        self.wrong(0, read_host, "\n".join(lines[1:]))
        self.wrong(0, read_host, "\n".join([lines[1], lines[0]] + lines[2:]))
        self.wrong(len(lines), read_host, "\n".join(lines + ["workers p q"]))
        lines = WORLD_TEXT.split("\n")
        self.wrong(0, read_world, two_groups(), "\n".join(lines[1:]))
        # The first line that is wrong is told, for whatever it is wrong.
        self.wrong(0, read_world, two_groups(), "\n".join(lines[1:] + ["thing"]))
        self.wrong(1, read_world, two_groups(), "\n".join([lines[0], "mends"] + lines[1:]))

    def test_lines_of_other_texts(self):
        for line in ("back", "group g", "workers", "begin", "run p a 1 pass", "run p a told", "tell -1 pass", "tell 01 pass",
                     "tell 1", "tell x pass", "change", "change a b", "fresh", "clear p", "gap", "thing a 1 near pass",
                     "tell 1234567890 pass", "run p a", "left", "Fresh p", "fresh pqrstuvwx"):
            self.wrong(2, read_host, "workers p\ngroup g a\n" + line + "\nno line")
        for line in ("run p a pass", "run p a 0 pass", "run p a 01 pass", "run p a +1 pass", "run p a 1", "tell 0 pass",
                     "change a", "run p a 1234567890 pass", "run p a 1 None", "run p a 1 ", "clear ", " clear", "gap p q",
                     "group g a", "fresh  p", "run\tp a 1 pass"):
            self.wrong(1, read_log, SHOP, "clear\n" + line + "\nno line")
        for line in ("thing g near pass", "thing a 0 near pass", "opening g 1 near pass", "opening near pass", "thing a 1 pass near",
                     "thing a 1 near cut", "mends", "mends pass", "mends close", "mends close g 1", "mends cut", "mends cut -1",
                     "mends gap 01", "mends pass a 0", "idle pass a 1", "spoils skip a 1", "spoils pass a 1 1", "spoils cut x"):
            self.wrong(1, read_world, SHOP, "thing a 1 near pass\n" + line + "\nno line")
        for line in ("group", "group g", "group G a", "group g A", "group g 1", "groups g a", "group g a ", "open g a"):
            self.wrong(1, read_shop, "group g a\n" + line + "\nno line")


class ValuesTest(unittest.TestCase):
    def raises(self, error, value, call, *args):
        with self.assertRaises(error) as caught:
            call(*args)
        self.assertEqual(repr(caught.exception.value), repr(value))

    def test_bad_shop(self):
        for text, groups in (
                ("group g a\ngroup g b", (("g", ("a",)), ("g", ("b",)))), ("group h a\ngroup g b", (("h", ("a",)), ("g", ("b",)))),
                ("group g b a", (("g", ("b", "a")),)), ("group g a b c d e", (("g", ("a", "b", "c", "d", "e")),)),
                ("group g g", (("g", ("g",)),)), ("group a x\ngroup b y\ngroup c z\ngroup d w", tuple(
                    (one, (other,)) for one, other in ("ax", "by", "cz", "dw")))):
            self.raises(BadShop, groups, read_shop, text)
            self.raises(BadShop, groups, read_host, "workers q p\n" + text + "\nfresh z")

    def test_bad_log(self):
        for text, log in (
                ("run p z 1 pass", (("run", "p", ("z", 1), "pass"),)), ("run p a 10 pass", (("run", "p", ("a", 10), "pass"),)),
                ("run p a 999999999 -", (("run", "p", ("a", 999999999), None),)),
                ("run p a 1 pass\nrun p b 1 skip", (("run", "p", A, "pass"), ("run", "p", B, "skip"))),
                ("run p a 1 -\nrun p a 1 -\nrun p a 1 -\nrun p a 1 -", (("run", "p", A, None),) * 4),
                ("\n".join(["clear"] * 31), (("clear",),) * 31),
                ("gap p\ngap q\ngap r\ngap s", tuple(("gap", worker) for worker in "pqrs"))):
            self.raises(BadLog, log, read_log, SHOP, text)
        self.assertEqual(len(read_log(SHOP, "\n".join(["clear"] * 30))), 30)

    def test_bad_world(self):
        opening = (G, "near", "pass", ())
        for text, tempers in (
                ("thing a 1 near pass", ((A, "near", "pass", ()),)),
                ("thing z 1 near pass\nopening g near pass", ((("z", 1), "near", "pass", ()), opening)),
                ("thing a 10 near pass\nopening g near pass", ((("a", 10), "near", "pass", ()), opening)),
                ("opening g near pass\nthing a 1 near pass", (opening, (A, "near", "pass", ()))),
                ("opening g near pass\nopening g near pass", (opening, opening)),
                ("opening g near pass\nmends cut 30", ((G, "near", "pass", ((("cut", 30), "mends"),)),)),
                ("opening g near pass\nmends cut 1\nmends close g", (
                    (G, "near", "pass", ((("cut", 1), "mends"), (("close", "g"), "mends"))),)),
                ("opening g near pass\nmends cut 1\nspoils cut 1", (
                    (G, "near", "pass", ((("cut", 1), "mends"), (("cut", 1), "spoils"))),)),
                ("opening g near pass\nmends pass v 1", ((G, "near", "pass", ((("pass", V), "mends"),)),)),
                ("opening g near pass\nspoils close h", ((G, "near", "pass", ((("close", "h"), "spoils"),)),))):
            self.raises(BadWorld, tempers, read_world, SHOP, text)

    def test_bad_workers(self):
        for words in ("q p", "p p", "a b c d"):
            self.raises(BadWorkers, tuple(words.split(" ")), read_host, "workers " + words + "\ngroup g a\nfresh z")
        self.raises(BadShop, (), read_host, "workers q p")
        self.raises(BadShop, (), read_host, "workers p\nclear")

    def test_the_first_deed_that_is_refused(self):
        head, log = "workers p q\ngroup g a b v\n", (("run", "p", A, "pass"),)
        for deed, error, value in (
                ("fresh r", NoWorker, "r"), ("gap r", NoWorker, "r"), ("run r z skip", NoWorker, "r"), ("run p z pass", NoCheck, "z"),
                ("run p b skip", BadOutcome, "skip"), ("tell 0 -", BadOutcome, None), ("tell 1 pass", NoEvent, 1),
                ("tell 999999999 -", NoEvent, 999999999), ("change z", NoCheck, "z"), ("begin b a", BadChecks, ("b", "a")),
                ("begin a a", BadChecks, ("a", "a")), ("begin z", BadChecks, ("z",)), ("begin a b v w", BadChecks, tuple("abvw")),
                ("run p g pass", NoCheck, "g")):
            self.raises(error, value, read_host, head + "run p a pass\n" + deed + "\nfresh zz")
        self.raises(Full, log, read_host, head + "run p a pass\n" + "\n".join(["change a"] * 9))
        self.raises(Full, (("clear",),) * 30, read_host, head + "\n".join(["clear"] * 31))
        self.raises(Full, (("run", "p", A, None),) * 3, read_host, head + "\n".join(["run p a -"] * 4))
        # A line of no form comes ahead of all that is refused.
        with self.assertRaises(BadText) as caught:
            read_host("workers q p\ngroup g g\nfresh r\nno line")
        self.assertEqual(caught.exception.line, 3)


if __name__ == "__main__":
    unittest.main()

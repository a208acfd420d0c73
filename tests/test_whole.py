"""Point 3 over the whole program: programs, worlds, hosts, plans, reasons, texts and desks beside one another."""

import random
import unittest

from spoilorder.blaming import blamed
from spoilorder.culprits import suspects
from spoilorder.desks import Desk
from spoilorder.drawing import drawn, glass_of
from spoilorder.driving import Runner, drive
from spoilorder.errors import SpoilError, TooMany
from spoilorder.glasses import Glass
from spoilorder.hosts import Host
from spoilorder.logs import letters
from spoilorder.looks import shows_filled
from spoilorder.machines import alike
from spoilorder.plans import is_safe
from spoilorder.reading import read_host, read_log, read_torn, read_world
from spoilorder.showing import show_host, show_log, show_world
from spoilorder.striking import filled, forecast, possible
from tests.plain import random_glass
from tests.plain_hosts import do_deed, random_deed
from tests.test_driving import TWO_CELLS

WORKERS = ("p", "q")


def told_by(chance, machine, many):
    """A host to which a runner's moves were told, and the runner."""
    host, runner = Host(machine.shop, WORKERS), Runner(machine, WORKERS)
    for _ in range(many):
        word, worker = chance.choice(("run", "run", "run", "run", "fresh", "clear")), chance.choice(WORKERS)
        if word == "run":
            item = chance.choice(machine.all_items)
            host.run(worker, item[0], runner.run(worker, item))
        else:
            for one in (runner, host):
                do_deed(one, (word, worker) if word == "fresh" else (word,))
    return host, runner


class ProgramsTest(unittest.TestCase):
    def drawn_ones(self, chance, many):
        """Programs, each with the world that does the same in all moves of two workers."""
        found = []
        while len(found) < many:
            glass = random_glass(chance, 4)
            try:
                told = drawn(glass, 2)
            except TooMany:
                continue
            if told[0] == "world":
                found.append((glass, told[1]))
        return found

    def test_a_program_its_world_and_the_world_as_a_program(self):
        chance = random.Random(201)
        for glass, world in self.drawn_ones(chance, 20):
            again = Glass(glass_of(world))
            for one, other in ((glass, world), (world, again), (again, glass)):
                try:
                    self.assertEqual(alike(one, other, 2)[0], "alike")
                except TooMany:
                    self.assertEqual(alike(one, other, 1)[0], "alike")
            self.assertTrue(read_world(world.shop, show_world(world)) == world)

    def test_what_its_runs_write_down(self):
        chance = random.Random(202)
        safe = 0
        for glass, world in self.drawn_ones(chance, 25):
            host, runner = told_by(chance, glass, chance.randrange(14))
            self.assertTrue(world.agrees(host.log, ()))
            self.assertEqual(host.possible(), ((),))
            self.assertEqual(host.blamed((1, 1, 1, 1), 0)[:3], ("reasons", 0, ()))
            self.assertEqual(read_log(host.shop, show_log(host.shop, host.log)), host.log)
            for number, event in enumerate(host.log):
                if event[0] == "run" and event[3] != "skip":
                    # What decided in the world is among the suspects.
                    self.assertTrue(self.decided(world, host.log, number) & set(suspects(
                        host.shop, host.log, number, event[2])))
            runs = tuple(("run", chance.choice(WORKERS), chance.choice(glass.all_items), None) for _ in range(2))
            told = tuple(runner.run(worker, item) for _, worker, item, _ in runs)
            self.assertIn(told[0], host.forecast(runs)[0])
            self.assertIn(told, [filling for filling in possible(host.shop, host.log + runs)])
            if is_safe(host.shop, host.log, runs) == ("safe",):
                self.assertEqual(told, ("pass", "pass"))
                safe += 1
        self.assertGreater(safe, 0)

    def decided(self, world, log, number):
        """(event, letter) of the last letter that is not idle in the world, by the letters of the log."""
        thing = log[number][2]
        _, where, _, kinds = world.tempers[world.things.index(thing)]
        told = dict(kinds)
        last = (-1, ())
        for size in range(number + 1):
            event = log[size]
            if event == (("fresh", log[number][1]) if where == "near" else ("clear",)):
                last = (-1, ())
            for brought, worker, letter in [row for row in letters(world.shop, log, ()) if row[0] == size]:
                if letter[1] == thing and brought == number:
                    break
                if letter in told and (where == "far" or worker == log[number][1]):
                    last = (brought, letter)
        return {last}

    def test_a_clash_stays(self):
        chance = random.Random(203)
        seen = 0
        while seen < 12:
            glass = Glass(TWO_CELLS)
            host, runner = Host(glass.shop, ("p",)), Runner(glass, ("p",))
            for checks in chance.sample(("v", "av", "amv", "abmv", "abv", "mv"), 4):
                for one in (runner, host):
                    one.fresh("p")
                    one.clear()
                for check in checks:
                    host.run("p", check, runner.run("p", (check, 1)))
            log = host.log
            sizes = [size for size in range(len(log) + 1) if possible(glass.shop, log[:size]) == ()]
            if sizes:
                found = filled(glass.shop, log[:sizes[0]])
                for size in sizes:
                    self.assertTrue(shows_filled(glass.shop, log[:size], found))
                    self.assertEqual(forecast(glass.shop, log[:size] + (("run", "p", ("v", 1), None),)), ((),))
                seen += 1


class HostsTest(unittest.TestCase):
    def test_reasons_where_each_check_has_one_edition(self):
        """There section 14 reads a log as section 9 does: no reasons are needed just if a world explains it."""
        chance = random.Random(204)
        seen = {True: 0, False: 0}
        while min(seen.values()) < 25:
            glass = random_glass(chance, 2)
            host = Host(glass.shop, WORKERS)
            for _ in range(chance.randrange(4, 14)):
                deed = random_deed(chance, glass.shop, WORKERS, 1)
                if deed[0] in ("run", "fresh", "clear", "gap"):
                    try:
                        do_deed(host, deed)
                    except SpoilError:
                        pass
            if len([event for event in host.log if event[-1] is None]) > 1:
                continue
            explained = len(host.possible()) > 0
            self.assertEqual(host.blamed((1, 2, 3, 4), 0)[0] == "reasons", explained)
            self.assertEqual(blamed(host.shop, host.log, (1, 2, 3, 4), 27)[1] == 0, explained)
            seen[explained] += 1

    def test_a_round_by_lines(self):
        """A desk that is asked and told by lines comes to the same log as a driven host."""
        chance = random.Random(205)
        for _ in range(40):
            glass = random_glass(chance)
            host, runner = Host(glass.shop, WORKERS), Runner(glass, WORKERS)
            desk, beside = Desk(show_host(host)), Runner(glass, WORKERS)
            checks = glass.shop.checks
            host.begin(checks)
            self.assertEqual(desk.say("begin " + " ".join(checks)), "ok")
            found = drive(host, runner, 5)
            runs = 0
            while desk.say("left") != "-" and runs < 5 and desk.say("world") == "yes":
                left = desk.say("left").replace(",", "")
                check = desk.say("next p " + left)
                for word in ("fresh p", "clear"):
                    if check == "-" and not desk.say("log").endswith(word):
                        beside.clear() if word == "clear" else beside.fresh("p")
                        self.assertEqual(desk.say(word), "ok")
                        check = desk.say("next p " + left)
                check = left.split(" ")[0] if check == "-" else check
                outcome = beside.run("p", (check, 1))
                self.assertEqual(desk.say(f"run p {check} {outcome}"), str(len(desk.host.log) - 1))
                runs += 1
            if desk.say("world") == "yes":
                self.assertEqual(found, (desk.host.left, runs))
                self.assertTrue(desk.host == host)
                self.assertEqual(runner.state, beside.state)

    def test_shown_torn_and_told_on(self):
        chance = random.Random(206)
        for _ in range(20):
            glass = random_glass(chance)
            host, _ = told_by(chance, glass, 12)
            host.begin(glass.shop.checks)
            text = show_host(host) + "\n"
            place = chance.randrange(text.index("run" if "run" in text else "begin"), len(text) + 1)
            behind, rest = read_torn(text[:place])
            desk = Desk(show_host(behind))
            for line in (rest + text[place:]).split("\n")[:-1]:
                desk.say(line)
            self.assertTrue(desk.host == host == read_host(text[:-1]))
            self.assertEqual(desk.say("left"), ", ".join(host.left))


if __name__ == "__main__":
    unittest.main()

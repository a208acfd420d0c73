"""Point 16: Runner, drive; point 3 (c), (f)."""

import random
import unittest

from spoilorder.driving import Runner, drive
from spoilorder.errors import BadMost, BadOutcome, BadWorkers, Full, NoItem, NoWorker, OtherItems, SpoilError
from spoilorder.glasses import Glass
from spoilorder.hosts import Host
from spoilorder.shops import Shop
from spoilorder.striking import forecast, possible
from spoilorder.worlds import World
from tests.common import A, B, V, a_glass, a_world, any_values, assert_raises, two_groups
from tests.plain import random_glass, random_world
from tests.plain_hosts import do_deed, plain_drive, random_deed
from tests.test_hosts import told

FRESH, CLEAR = ("fresh", "p"), ("clear",)
EDITIONS = """shared c ok bad
group g
  check a 1
    set c bad
  check a 2
  check v 1
    want c ok"""
# The document's program that no world does the same as: v wants two cells.
TWO_CELLS = """cell c ok bad
cell d ok bad
group g
  check a 1
    set c bad
  check b 1
    set d bad
  check m 1
    set c ok
  check v 1
    want c ok
    want d ok"""
NO_WORLD = (("run", "p", "a", "pass"), CLEAR, FRESH, ("run", "p", "a", "fail"))


def random_machine(chance):
    """A world or a glass whose items are all of edition 1, so that a host can run them."""
    if chance.random() < 0.5:
        return random_glass(chance)
    while True:
        world = random_world(chance, two_groups())
        if [item for item in world.all_items if item[1] == 1]:
            return world


def a_round(machine, workers=("p",), checks=None):
    """A host of the machine's shop with a round, and a runner beside it."""
    host = Host(machine.shop, workers)
    host.begin(machine.shop.checks if checks is None else checks)
    return host, Runner(machine, workers)


class RunnerTest(unittest.TestCase):
    def test_against_the_machine(self):
        chance = random.Random(161)
        for _ in range(60):
            machine = random_machine(chance)
            workers = chance.choice((("p",), ("a", "q"), ("p", "q", "r")))
            runner, state = Runner(machine, workers), machine.start(len(workers))
            self.assertEqual(runner.state, state)
            for _ in range(15):
                number = chance.randrange(len(workers))
                word = chance.choice(("run", "run", "run", "fresh", "clear"))
                if word == "fresh":
                    self.assertIsNone(runner.fresh(workers[number]))
                    state = machine.freshened(state, number)
                elif word == "clear":
                    self.assertIsNone(runner.clear())
                    state = machine.cleared(state)
                elif machine.all_items:
                    item = chance.choice(machine.all_items)
                    outcome, state = machine.after(state, number, item)
                    self.assertEqual(runner.run(workers[number], item), outcome)
                self.assertEqual(runner.state, state)

    def test_by_name(self):
        runner = Runner(machine=a_glass(), workers=("p", "q"))
        self.assertEqual([runner.run(worker="q", item=A), runner.run(item=V, worker="q"), runner.run("p", V)], [
            "pass", "fail", "pass"])
        runner.fresh(worker="q")
        self.assertEqual(runner.state, a_glass().after(a_glass().start(2), 0, V)[1])
        self.assertIsInstance(vars(Runner)["state"], property)

    def test_workers(self):
        for workers in any_values() + [(), ("q", "p"), ("p", "p"), ("a", "b", "c", "d"), ["p"], "p", ("p", 2), ("Q",)]:
            if workers != ("x",):
                assert_raises(self, BadWorkers, workers, Runner, a_world(), workers)

    def test_errors_in_the_sequence_of_the_arguments(self):
        for machine in (a_glass(), a_world()):
            runner = Runner(machine, ("p", "q"))
            runner.run("q", A)
            state = runner.state
            for worker in any_values() + ["r", "P", 0, True]:
                assert_raises(self, NoWorker, worker, runner.run, worker, "no item")
                assert_raises(self, NoWorker, worker, runner.fresh, worker)
            for item in any_values() + [("a", 2), ("a", True), ("g", 0), ("z", 1), ["a", 1], "a"]:
                assert_raises(self, NoItem, item, runner.run, "p", item)
            self.assertEqual(runner.state, state)
            self.assertEqual(runner.run("q", V), "fail")


class DriveTest(unittest.TestCase):
    def both(self, machine, workers, deeds, most, apart=()):
        """A drive beside a plain one: what comes of them, the logs, the states of the runners."""
        found = []
        for call in (drive, plain_drive):
            host, runner = Host(machine.shop, workers), Runner(machine, workers)
            for worker, item in apart:
                runner.run(worker, item)
            for deed in deeds:
                try:
                    do_deed(host, deed)
                except SpoilError:
                    pass
            try:
                came = call(host, runner, most)
            except SpoilError as error:
                came = (error.__class__, error.value)
            found.append((came, host.log, host.present, host.left, runner.state, told(host)))
        self.assertEqual(found[0], found[1])
        return found[0]

    def test_against_a_plain_driver(self):
        chance = random.Random(162)
        came = {}
        for _ in range(250):
            machine = random_machine(chance)
            checks = sorted({item[0] for item in machine.all_items if item[1] == 1})
            workers = chance.choice((("p",), ("p", "q"), ("a", "q", "r")))
            deeds = []
            if chance.random() < 0.4:
                deeds = [random_deed(chance, machine.shop, workers, 3) for _ in range(chance.randrange(1, 8))]
                deeds = [deed for deed in deeds if deed[0] not in ("change", "back", "begin")]
            if chance.random() < 0.15:
                deeds += [("clear",)] * chance.randrange(15, 25)
            if chance.random() < 0.2:
                check, worker = chance.choice(checks), workers[0]
                deeds += chance.choice((
                    [("run", worker, check, "pass")] * 2,
                    [("run", worker, check, "pass"), CLEAR, ("fresh", worker), ("run", worker, check, "fail")]))
            some = tuple(check for check in checks if chance.random() < 0.8)
            deeds += [("begin", some)]
            if chance.random() < 0.3:
                deeds += chance.choice(([FRESH], [CLEAR], [FRESH, CLEAR], [CLEAR, FRESH], [("fresh", "q"), CLEAR]))
            runner_deeds = [
                (chance.choice(workers), chance.choice(machine.all_items)) for _ in range(chance.choice((0, 0, 0, 1, 3)))]
            result = self.both(machine, workers, deeds, chance.choice((0, 1, 3, 8, 20)), runner_deeds)
            key = result[0][0] if isinstance(result[0][0], type) else result[0][0] == ()
            came[key] = came.get(key, 0) + 1
        self.assertGreater(min(came[True], came[False], came[Full]), 5)
        self.assertGreater(came[BadOutcome], 0)

    def test_what_passes_surely_runs_at_once(self):
        host, runner = a_round(a_glass())
        for _ in range(3):
            self.assertEqual(drive(host, runner, 1)[1], 1)
        self.assertEqual(host.left, ())
        start = len(host.log)
        # All of them pass alone, and that is known now, so each runs on a fresh worker and a clear store.
        host.begin(("a", "b", "v"))
        self.assertEqual(drive(host, runner, 20), ((), 3))
        rest = host.log[start:]
        self.assertEqual([event for event in rest if event[0] == "run"], [
            ("run", "p", A, "pass"), ("run", "p", B, "pass"), ("run", "p", V, "pass")])
        self.assertEqual(rest[0], FRESH)

    def test_nothing_is_known_at_first(self):
        host, runner = a_round(a_glass(), ("p", "q"), ("b", "v"))
        self.assertEqual(drive(host, runner, 1), (("v",), 1))
        self.assertEqual(host.log, (FRESH, CLEAR, ("run", "p", B, "pass")))
        self.assertEqual(runner.state, a_glass().after(a_glass().start(2), 0, B)[1])

    def test_not_made_fresh_again(self):
        host, runner = a_round(a_glass())
        host.fresh("p")
        self.assertEqual(drive(host, runner, 1), (("b", "v"), 1))
        self.assertEqual(host.log, (FRESH, CLEAR, ("run", "p", A, "pass")))

    def test_made_fresh_behind_what_is_else(self):
        for last in (CLEAR, ("gap", "p"), ("fresh", "q"), ("run", "p", V, "pass")):
            host, runner = a_round(a_glass(), ("p", "q"))
            do_deed(host, last[:2] + (last[2][0], last[3]) if last[0] == "run" else last)
            drive(host, runner, 1)
            self.assertEqual(host.log, (last, FRESH, CLEAR, ("run", "p", A, "pass")))

    def test_the_first_worker_alone(self):
        host, runner = a_round(a_glass(), ("b", "p", "q"))
        self.assertEqual(drive(host, runner, 20), ((), 3))
        self.assertEqual({event[1] for event in host.log if event != CLEAR}, {"b"})

    def test_a_check_that_never_passes(self):
        glass = Glass("cell c ok bad\ngroup g\n  check a 1\n    fail\n  check b 1")
        host, runner = a_round(glass)
        self.assertEqual(drive(host, runner, 6), (("a", "b"), 6))
        runs = [event for event in host.log if event[0] == "run"]
        self.assertEqual({run[2:] for run in runs}, {(A, "fail")})
        with self.assertRaises(Full) as caught:
            drive(host, runner, 20)
        self.assertEqual(caught.exception.value, host.log)
        self.assertGreaterEqual(len(host.log), 29)

    def test_most(self):
        for most in (0, 1, 2, 3, 20):
            host, runner = a_round(a_glass())
            left, runs = drive(host, runner, most)
            self.assertEqual((runs, left), (min(most, 3), ("a", "b", "v")[most:]))
            self.assertEqual(left, host.left)
        host, runner = a_round(a_glass())
        self.assertEqual(drive(most=0, runner=runner, host=host), (("a", "b", "v"), 0))
        self.assertEqual(host.log, ())

    def test_without_a_round(self):
        host, runner = Host(a_glass().shop, ("p",)), Runner(a_glass(), ("p",))
        host.run("p", "a", "pass")
        self.assertEqual(drive(host, runner, 20), ((), 0))
        self.assertEqual((host.log, runner.state), ((("run", "p", A, "pass"),), a_glass().start(1)))

    def test_no_world(self):
        # The host's log is wrong from its first events on: the least one that is left runs, without fresh and clear.
        host, runner = a_round(a_glass())
        for deed in (("run", "p", "v", "pass"), CLEAR, FRESH, ("run", "p", "v", "fail"), ("begin", ("a", "v"))):
            do_deed(host, deed)
        self.assertEqual(host.possible(), ())
        self.assertEqual(drive(host, runner, 2), (("v",), 2))
        self.assertEqual(host.log[4:], (("run", "p", A, "pass"), ("run", "p", V, "fail")))
        with self.assertRaises(Full):
            drive(host, runner, 20)
            drive(host, runner, 20)
        self.assertEqual(len(host.log), 30)

    def test_full_behind_what_the_runner_has_done(self):
        host, runner = a_round(a_glass())
        for _ in range(29):
            host.clear()
        with self.assertRaises(Full) as caught:
            drive(host, runner, 5)
        # The worker was made fresh, behind which a run would have no room.
        self.assertEqual(host.log, (CLEAR,) * 29 + (FRESH,))
        self.assertEqual(caught.exception.value, host.log)
        host, runner = a_round(a_glass())
        for deed in (("run", "p", "v", "pass"), CLEAR, FRESH, ("run", "p", "v", "fail")) + (CLEAR,) * 26:
            do_deed(host, deed)
        host.begin(("a",))
        with self.assertRaises(Full) as caught:
            drive(host, runner, 1)
        self.assertEqual((len(host.log), caught.exception.value), (30, host.log))
        # Told to nobody, the run is done all the same.
        self.assertEqual(runner.state, a_glass().after(a_glass().start(1), 0, A)[1])

    def test_an_outcome_that_the_log_does_not_let(self):
        glass = Glass("shared c ok bad\ngroup g\n  open\n    want c ok\n  check a 1\n    set c bad\n  check v 1")
        for deeds in (NO_WORLD, (("run", "p", "a", "pass"), ("run", "p", "a", "pass"))):
            host, runner = a_round(glass, ("p", "q"), ("a",))
            for deed in deeds + (("begin", ("a",)),):
                do_deed(host, deed)
            runner.run("q", A)
            before = host.log
            # The group is open by the log alone.
            with self.assertRaises(BadOutcome) as caught:
                drive(host, runner, 5)
            self.assertEqual((caught.exception.value, host.log, host.left), ("skip", before, ("a",)))
            self.assertEqual(runner.state[0][0][0], "")

    def test_late_and_changed(self):
        glass = Glass(EDITIONS)
        host, runner = Host(glass.shop, ("p",)), Runner(glass, ("p",))
        host.begin(("a", "v"))
        self.assertEqual(drive(host, runner, 20), ((), 2))
        host.change("a")
        self.assertEqual(host.left, ("a",))
        self.assertEqual(drive(host, runner, 20), ((), 1))
        self.assertEqual(host.log[-1], ("run", "p", ("a", 2), "pass"))

    def test_bad_most(self):
        host, other = a_round(a_glass())[0], Runner(a_glass(), ("q",))
        before = told(host)
        for most in [value for value in any_values() if value.__class__ != int] + [-1, 21, 10 ** 18, True, False, "3"]:
            with self.assertRaises(BadMost) as caught:
                drive(host, other, most)
            self.assertTrue(caught.exception.value is most)
            self.assertEqual((told(host), other.state), (before, a_glass().start(1)))

    def test_other_items(self):
        glass = Glass(EDITIONS)
        host = Host(glass.shop, ("p", "q"))
        host.begin(("a", "v"))
        others = [
            Runner(a_glass(), ("p", "q")), Runner(glass, ("p",)), Runner(glass, ("p", "r")),
            Runner(World(glass.shop, ()), ("p", "q")), Runner(World(Shop((("g", ("a",)),)), ()), ("p", "q"))]
        for runner in others:
            before, state = told(host), runner.state
            with self.assertRaises(OtherItems) as caught:
                drive(host, runner, 20)
            self.assertEqual(caught.exception.value, runner.machine.all_items)
            self.assertEqual((told(host), runner.state), (before, state))
        host.change("a")
        host.change("a")
        runner = Runner(glass, ("p", "q"))
        with self.assertRaises(OtherItems) as caught:
            drive(host, runner, 0)
        self.assertEqual(caught.exception.value, (("a", 1), ("a", 2), ("v", 1)))
        # Only what is left has to be there.
        host.begin(("v",))
        self.assertEqual(drive(host, runner, 20), ((), 1))
        self.assertRaises(OtherItems, drive, host, Runner(glass, ("p",)), 20)


class ProgramsTest(unittest.TestCase):
    def told_log(self, chance, machine, workers, many):
        """What a runner's runs write down, some of it not told."""
        host, runner = Host(machine.shop, workers), Runner(machine, workers)
        for _ in range(many):
            word = chance.choice(("run",) * 6 + ("fresh", "clear", "gap"))
            worker = chance.choice(workers)
            if word == "run":
                item = chance.choice([item for item in machine.all_items if item[1] == 1])
                host.run(worker, item[0], runner.run(worker, item))
            elif word == "gap":
                # What nobody has seen: some runs, behind which no group is open.
                for _ in range(chance.randrange(2)):
                    runner.run(worker, chance.choice(machine.all_items))
                host.gap(worker)
                runner.fresh(worker)
                host.fresh(worker)
            else:
                do_deed(runner, (word, worker)[:2 if word == "fresh" else 1])
                do_deed(host, (word, worker)[:2 if word == "fresh" else 1])
        return host, runner

    def test_what_worlds_write_down(self):
        chance = random.Random(163)
        for _ in range(60):
            world = random_machine(chance)
            while not isinstance(world, World):
                world = random_machine(chance)
            host, runner = self.told_log(chance, world, ("p", "q"), chance.randrange(2, 12))
            if any(event[0] == "gap" for event in host.log):
                continue
            self.assertTrue(world.agrees(host.log, ()))
            self.assertEqual(host.possible(), ((),))
            items = [item for item in world.all_items if item[1] == 1]
            item, worker = chance.choice(items), chance.choice(("p", "q"))
            outcomes = host.forecast((("run", worker, item, None),))[0]
            self.assertIn(runner.run(worker, item), outcomes)

    def told_turns(self, chance, many):
        """What the program that wants two cells writes down, in turns on a fresh worker and a clear store."""
        machine = Glass(TWO_CELLS)
        host, runner = Host(machine.shop, ("p",)), Runner(machine, ("p",))
        for checks in chance.sample(("v", "av", "bv", "amv", "abmv", "abv", "mv"), many):
            runner.fresh("p")
            host.fresh("p")
            host.clear()
            for check in checks:
                host.run("p", check, runner.run("p", (check, 1)))
        return host, runner

    def test_what_any_program_writes_down(self):
        chance = random.Random(164)
        lost = sure = 0
        for place in range(100):
            if place % 2:
                host, runner = self.told_turns(chance, 4)
            else:
                host, runner = self.told_log(chance, random_glass(chance), ("p",), chance.randrange(2, 12))
            for _ in range(5):
                check = chance.choice(host.shop.checks)
                explained = host.possible() == ((),)
                outcomes = host.forecast((("run", "p", (check, 1), None),))[0]
                surely = host.next("p", (check,)) if explained else None
                outcome = runner.run("p", (check, 1))
                host.run("p", check, outcome)
                # The outcome is among those that are told just if some world explains the log with it.
                self.assertEqual(outcome in outcomes, host.possible() == ((),))
                self.assertLessEqual(bool(host.possible()), explained)
                if surely and host.possible():
                    self.assertEqual(outcome, "pass")
                    sure += 1
                lost += not host.possible()
        self.assertGreater(lost, 5)
        self.assertGreater(sure, 20)

    def test_evidence_stays(self):
        chance = random.Random(165)
        lost = 0
        for _ in range(40):
            log = self.told_turns(chance, 5)[0].log
            shop = Glass(TWO_CELLS).shop
            told = [possible(shop, log[:size]) for size in range(len(log) + 1)]
            self.assertEqual(told, sorted(told, reverse=True))
            self.assertEqual(set(told) - {(), ((),)}, set())
            if told[-1] == ():
                lost += 1
                self.assertEqual(forecast(shop, log + (("run", "p", V, None),)), ((),))
        self.assertGreater(lost, 5)


if __name__ == "__main__":
    unittest.main()

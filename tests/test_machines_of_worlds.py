"""Point 6: worlds as machines."""

import random
import unittest

from spoilorder.errors import BadMany, BadOrder, NoItem, NoWorker
from spoilorder.logs import is_log
from spoilorder.worlds import World
from tests.common import A, B, G, H, V, a_world, any_values, assert_raises, one_group, two_groups
from tests.plain import random_world

SHOP = two_groups()
W = ("w", 1)


def two_places():
    """A world with near and far things in both groups; closing g spoils w, a failing opening of h mends a."""
    return World(SHOP, (
        (A, "near", "pass", ((("fail", H), "mends"), (("pass", A), "spoils"))),
        (B, "far", "pass", ((("fail", A), "spoils"), (("pass", W), "mends"))),
        (G, "near", "pass", ()),
        (H, "far", "pass", ((("fail", B), "spoils"), (("fail", H), "mends"))),
        (W, "near", "pass", ((("close", "g"), "spoils"), (("pass", H), "mends"))),
    ))


class MachineTest(unittest.TestCase):
    def test_document(self):
        world = a_world()
        self.assertEqual(
            [world.outcomes((A, V)), world.outcomes((A, B, V)), world.after(world.start(1), 0, A)],
            [("pass", "fail"), ("pass", "pass", "pass"),
             ("pass", ((("g", ("pass", "pass", "pass", "fail")),), ()))])

    def test_start(self):
        world = two_places()
        row = ("", ("pass", "pass", "pass"))
        for many in (1, 2, 3):
            self.assertEqual(world.start(many), ((row,) * many, ("pass", "pass")))
            self.assertEqual(world.start(many=many), world.start(many))
        self.assertEqual(World(SHOP, ()).start(2), ((("", ()), ("", ())), ()))
        tempers = ((A, "far", "fail", ()), (G, "near", "fail", ()), (H, "far", "pass", ()))
        self.assertEqual(World(SHOP, tempers).start(1), ((("", ("fail",)),), ("fail", "pass")))

    def test_moods_stand_as_the_things(self):
        tempers = ((A, "near", "fail", ()), (B, "near", "pass", ()), (G, "near", "pass", ()), (H, "near", "fail", ()))
        self.assertEqual(World(SHOP, tempers).start(1), ((("", ("fail", "pass", "pass", "fail")),), ()))

    def test_after(self):
        world = two_places()
        outcome, state = world.after(world.start(2), 0, A)
        fresh = ("", ("pass", "pass", "pass"))
        self.assertEqual((outcome, state), ("pass", ((("g", ("fail", "pass", "pass")), fresh), ("pass", "pass"))))
        outcome, state = world.after(state, 0, A)
        self.assertEqual((outcome, state), ("fail", ((("g", ("fail", "pass", "pass")), fresh), ("fail", "pass"))))
        # The store is shared: what a did on worker 0 fails b on worker 1, and that spoils the opening of h.
        outcome, state = world.after(state, 1, B)
        self.assertEqual(outcome, "fail")
        self.assertEqual(state, ((("g", ("fail", "pass", "pass")), ("g", ("pass", "pass", "pass"))), ("fail", "fail")))
        # g is closed, the opening of h fails: w is skipped, no group is open, and a is mended on worker 0 alone.
        outcome, state = world.after(state, 0, W)
        self.assertEqual(outcome, "skip")
        self.assertEqual(state, ((("", ("pass", "pass", "fail")), ("g", ("pass", "pass", "pass"))), ("fail", "pass")))
        # h opens now, and that mends w.
        outcome, state = world.after(state, 0, W)
        self.assertEqual(outcome, "pass")
        self.assertEqual(state, ((("h", ("pass", "pass", "pass")), ("g", ("pass", "pass", "pass"))), ("pass", "pass")))

    def test_opening_that_fails(self):
        world = World(SHOP, ((A, "near", "pass", ()), (G, "near", "fail", ((("fail", G), "mends"),))))
        start = world.start(1)
        self.assertEqual(start, ((("", ("pass", "fail")),), ()))
        outcome, state = world.after(start, 0, A)
        self.assertEqual((outcome, state), ("skip", ((("", ("pass", "pass")),), ())))
        outcome, state = world.after(state, 0, A)
        self.assertEqual((outcome, state), ("pass", ((("g", ("pass", "pass")),), ())))
        self.assertEqual(world.outcomes((A, A, A)), ("skip", "pass", "pass"))

    def test_group_stays_open(self):
        kinds = ((("pass", G), "spoils"),)
        world = World(SHOP, ((A, "near", "pass", ()), (B, "far", "pass", kinds), (G, "near", "pass", kinds)))
        self.assertEqual(world.outcomes((A, A, A)), ("pass", "pass", "pass"))
        self.assertEqual(world.outcomes((A, B)), ("pass", "fail"))

    def test_closing(self):
        kinds = ((("close", "g"), "spoils"),)
        world = World(SHOP, ((A, "near", "pass", ()), (B, "near", "pass", kinds), (G, "near", "pass", ()),
                             (H, "near", "pass", ()), (V, "near", "pass", kinds)))
        self.assertEqual(world.outcomes((B, A, B, V, B)), ("pass", "pass", "pass", "fail", "fail"))
        self.assertEqual(world.outcomes((V, B, V)), ("pass", "pass", "fail"))
        # A fresh worker has no group to close.
        state = world.freshened(world.after(world.start(1), 0, B)[1], 0)
        self.assertEqual(world.after(state, 0, V)[0], "pass")

    def test_freshened(self):
        world = two_places()
        state = world.start(3)
        for number, item in [(0, A), (0, A), (1, A), (2, W)]:
            state = world.after(state, number, item)[1]
        for number in range(3):
            rows, store = world.freshened(state, number)
            self.assertEqual(rows[number], ("", ("pass", "pass", "pass")))
            self.assertEqual([rows[k] for k in range(3) if k != number], [state[0][k] for k in range(3) if k != number])
            self.assertEqual(store, state[1])
            self.assertEqual(world.freshened(state=state, number=number), (rows, store))

    def test_cleared(self):
        world = two_places()
        state = world.start(2)
        for number, item in [(0, A), (0, A), (1, B)]:
            state = world.after(state, number, item)[1]
        self.assertNotEqual(state[1], ("pass", "pass"))
        self.assertEqual(world.cleared(state), (state[0], ("pass", "pass")))
        self.assertEqual(world.cleared(state=state), world.cleared(state))

    def test_first_moods_come_back(self):
        kinds = ((("fail", A), "mends"),)
        world = World(SHOP, ((A, "near", "fail", kinds), (B, "far", "fail", kinds), (G, "near", "pass", ())))
        state = world.after(world.start(1), 0, A)[1]
        self.assertEqual(state, ((("g", ("pass", "pass")),), ("pass",)))
        self.assertEqual(world.freshened(state, 0), ((("", ("fail", "pass")),), ("pass",)))
        self.assertEqual(world.cleared(state), ((("g", ("pass", "pass")),), ("fail",)))

    def test_own_letter(self):
        kinds = ((("fail", A), "mends"), (("pass", A), "spoils"))
        world = World(SHOP, ((A, "near", "pass", kinds), (G, "near", "pass", ())))
        self.assertEqual(world.outcomes((A,) * 5), ("pass", "fail", "pass", "fail", "pass"))

    def test_kept_state_leads_on_as_before(self):
        world = two_places()
        kept = world.after(world.start(2), 0, A)[1]
        first = [world.after(kept, number, item) for number in (0, 1) for item in (A, B, W)]
        state = kept
        for number, item in [(0, A), (1, B), (0, W), (1, W), (0, W)]:
            state = world.after(state, number, item)[1]
        world.outcomes((A, B, W))
        world.freshened(kept, 0)
        world.cleared(kept)
        self.assertEqual([world.after(kept, number, item) for number in (0, 1) for item in (A, B, W)], first)
        self.assertEqual([two_places().after(kept, number, item) for number in (0, 1) for item in (A, B, W)], first)

    def test_outcomes(self):
        world = two_places()
        self.assertEqual(world.outcomes(()), ())
        self.assertEqual(world.outcomes((A, A, B, W, W)), ("pass", "fail", "fail", "skip", "pass"))
        self.assertEqual(world.outcomes(order=(A, A)), ("pass", "fail"))
        self.assertEqual(len(world.outcomes((A,) * 12)), 12)

    def test_by_name(self):
        world = a_world()
        state = world.start(1)
        self.assertEqual(world.after(state=state, number=0, item=A), world.after(state, 0, A))


class ErrorsTest(unittest.TestCase):
    def test_bad_many(self):
        for value in [value for value in any_values() if value is True or value not in (1, 2)] + [4, -1, 0, (1,)]:
            assert_raises(self, BadMany, value, a_world().start, value)
            assert_raises(self, BadMany, value, a_world().start, many=value)

    def test_no_worker(self):
        world = a_world()
        for many in (1, 2, 3):
            state = world.start(many)
            right = list(range(many))
            numbers = [value for value in any_values() + [3] if isinstance(value, bool) or value not in right]
            for value in numbers:
                assert_raises(self, NoWorker, value, world.after, state, value, A)
                assert_raises(self, NoWorker, value, world.after, state=state, number=value, item=[])
                assert_raises(self, NoWorker, value, world.freshened, state, value)
                assert_raises(self, NoWorker, value, world.freshened, state=state, number=value)
            for value in right:
                self.assertEqual(world.after(state, value, A)[0], "pass")
                self.assertEqual(world.freshened(state, value), state)

    def test_no_item(self):
        world = a_world()
        state = world.start(1)
        for value in any_values() + [("a", True), ("a", 2), G, ("g", False), ["a", 1], "a", ("x", 1), ("a", 1, 1)]:
            assert_raises(self, NoItem, value, world.after, state, 0, value)
            assert_raises(self, NoItem, value, world.after, state=state, number=0, item=value)
        empty = World(one_group(), ())
        assert_raises(self, NoItem, A, empty.after, empty.start(1), 0, A)

    def test_bad_order(self):
        world = a_world()
        wrong = [value for value in any_values() if value != ()]
        wrong += [(value,) for value in any_values()] + [(A, value) for value in any_values()]
        wrong += [(A,) * 13, [A], A, (("a", True),), (G,), (("a", 2),), (["a", 1],), {A: A}, (A, G), ((A,),)]
        for value in wrong:
            assert_raises(self, BadOrder, value, world.outcomes, value)
            assert_raises(self, BadOrder, value, world.outcomes, order=value)


class LogsTest(unittest.TestCase):
    """What a world does on workers is a log that it agrees with, and with no other outcome of a thing."""

    def test_runs_agree(self):
        chance = random.Random(17)
        seen = []
        for _ in range(400):
            world = random_world(chance, SHOP)
            if world.all_items:
                log = self.run_some(chance, world, chance.randrange(1, 4), chance.randrange(0, 25))
                self.assertTrue(is_log(SHOP, log))
                self.assertTrue(world.agrees(log, ()))
                seen += [event[3] for event in log if event[0] == "run"]
                self.turn_one(chance, world, log)
        for outcome in ("pass", "fail", "skip"):
            self.assertGreater(seen.count(outcome), 200)

    def run_some(self, chance, world, many, steps):
        names = ("p", "q", "r")
        state = world.start(many)
        log = []
        for _ in range(steps):
            number = chance.randrange(many)
            move = chance.choice(("run",) * 8 + ("fresh", "clear"))
            if move == "run":
                item = chance.choice(world.all_items)
                outcome, state = world.after(state, number, item)
                log.append(("run", names[number], item, outcome))
            elif move == "fresh":
                state = world.freshened(state, number)
                log.append(("fresh", names[number]))
            else:
                state = world.cleared(state)
                log.append(("clear",))
        return tuple(log)

    def turn_one(self, chance, world, log):
        places = [place for place, event in enumerate(log) if event[0] == "run" and event[3] != "skip"]
        if places:
            place = chance.choice(places)
            turned = {"pass": "fail", "fail": "pass"}[log[place][3]]
            self.assertFalse(world.agrees(log[:place] + (log[place][:3] + (turned,),) + log[place + 1:], ()))

    def test_orders_agree(self):
        chance = random.Random(19)
        for _ in range(200):
            world = random_world(chance, SHOP)
            many = chance.randrange(13) if world.all_items else 0
            order = tuple(chance.choice(world.all_items) for _ in range(many))
            outcomes = world.outcomes(order)
            self.assertEqual(outcomes, world.outcomes(order))
            log = tuple(("run", "p", item, outcome) for item, outcome in zip(order, outcomes))
            self.assertTrue(world.agrees(log, ()))


if __name__ == "__main__":
    unittest.main()

"""Point 8: glasses as machines."""

import random
import unittest

from spoilorder.errors import BadMany, BadOrder, NoItem, NoWorker
from spoilorder.glasses import Glass
from tests.common import A, B, G, V, a_glass, any_values, assert_raises
from tests.plain import random_glass
from tests.plain_glass import PlainGlass

W = ("w", 1)


def glass_of_lines(*lines):
    return Glass("\n".join(lines))


def two_groups_glass():
    return glass_of_lines(
        "shared s lo hi", "cell c ok bad", "cell d ok bad worse",
        "group g", "  open", "    set d bad", "    want s lo", "  close", "    set c ok", "  check a 1", "    set c bad",
        "    want d worse", "    set s hi", "  check b 1", "    set s hi", "    fail", "    set c bad",
        "group h", "  check w 1", "    copy c to c", "    if c = ok", "      set d worse", "    else", "      fail")


class GlassTest(unittest.TestCase):
    def test_document(self):
        glass = a_glass()
        self.assertEqual(glass.all_items, (A, B, V))
        self.assertEqual(glass.outcomes((A, V, B, V)), ("pass", "fail", "pass", "pass"))
        self.assertEqual(glass.after(glass.start(1), 0, A), ("pass", ((("g", ("bad",)),), ())))

    def test_start(self):
        glass = two_groups_glass()
        for many in (1, 2, 3):
            self.assertEqual(glass.start(many), ((("", ("ok", "ok")),) * many, ("lo",)))
            self.assertEqual(glass.start(many=many), glass.start(many))
        self.assertEqual(glass_of_lines("group g", "  check a 1").start(2), ((("", ()), ("", ())), ()))

    def test_without_commands_it_passes(self):
        glass = glass_of_lines("group g", "  check a 1", "group h", "  check b 1")
        self.assertEqual(glass.outcomes((A, B, A)), ("pass", "pass", "pass"))
        self.assertEqual(glass.after(glass.start(2), 1, B), ("pass", ((("", ()), ("h", ())), ())))

    def test_open_and_what_fails(self):
        glass = two_groups_glass()
        # What was set ahead of a command that fails stays; those behind it are not done.
        outcome, state = glass.after(glass.start(1), 0, A)
        self.assertEqual((outcome, state), ("fail", ((("g", ("bad", "bad")),), ("lo",))))
        outcome, state = glass.after(glass.start(1), 0, B)
        self.assertEqual((outcome, state), ("fail", ((("g", ("ok", "bad")),), ("hi",))))
        # The opening fails, on another worker, too: the item is skipped and no group is open.
        rows, store = glass.start(2)
        outcome, state = glass.after((rows, ("hi",)), 1, A)
        self.assertEqual((outcome, state), ("skip", ((("", ("ok", "ok")), ("", ("ok", "bad"))), ("hi",))))

    def test_close(self):
        glass = two_groups_glass()
        state = glass.after(glass.start(1), 0, A)[1]
        outcome, state = glass.after(state, 0, W)
        self.assertEqual((outcome, state), ("pass", ((("h", ("ok", "worse")),), ("lo",))))
        # h has no commands of close; g's opening sets d again.
        outcome, state = glass.after(state, 0, A)
        self.assertEqual((outcome, state[0]), ("fail", (("g", ("bad", "bad")),)))
        # Of a skipped item the old group was closed all the same.
        state = ((("g", ("bad", "ok")),), ("hi",))
        glass = glass_of_lines("shared s lo hi", "cell c ok bad", "cell d ok bad", "group g", "  close", "    set c ok",
                               "  check a 1", "group h", "  open", "    set d bad", "    want s lo", "  check b 1")
        self.assertEqual(glass.after(state, 0, B), ("skip", ((("", ("ok", "bad")),), ("hi",))))

    def test_group_stays_open(self):
        glass = glass_of_lines("cell c ok bad", "group g", "  open", "    want c ok", "    set c bad", "  close",
                               "    set c ok", "  check a 1", "  check b 1")
        self.assertEqual(glass.outcomes((A, B, A, B)), ("pass",) * 4)

    def test_if_and_else(self):
        lines = ["cell c lo mid hi", "cell d lo mid hi", "group g", "  check a 1", "    if c = lo", "      set c mid",
                 "      if d = mid", "        fail", "    else", "      if c = mid", "        set c hi", "      else",
                 "        set c lo", "        set d mid"]
        glass = glass_of_lines(*lines)
        self.assertEqual(glass.outcomes((A,) * 5), ("pass", "pass", "pass", "fail", "pass"))
        state = glass.start(1)
        words = []
        for _ in range(4):
            state = glass.after(state, 0, A)[1]
            words.append(state[0][0][1])
        self.assertEqual(words, [("mid", "lo"), ("hi", "lo"), ("lo", "mid"), ("mid", "mid")])

    def test_copy(self):
        glass = glass_of_lines("cell c ok bad", "shared s ok bad", "group g", "  check a 1", "    set c bad",
                               "    copy c to s", "    set c ok", "  check b 1", "    copy s to c", "    want c ok")
        state = glass.after(glass.start(2), 0, A)[1]
        self.assertEqual(state, ((("g", ("ok",)), ("", ("ok",))), ("bad",)))
        self.assertEqual(glass.after(state, 1, B), ("fail", ((("g", ("ok",)), ("g", ("bad",))), ("bad",))))

    def test_shared_cells_and_own(self):
        glass = glass_of_lines("shared z lo hi", "cell y lo hi", "shared b lo hi", "cell a lo hi", "group g",
                               "  check a 1", "    set z hi", "    set a hi", "  check b 1", "    set y hi", "    set b hi")
        state = glass.after(glass.start(3), 1, A)[1]
        fresh = ("", ("lo", "lo"))
        self.assertEqual(state, ((fresh, ("g", ("lo", "hi")), fresh), ("hi", "lo")))
        state = glass.after(state, 2, B)[1]
        self.assertEqual(state, ((fresh, ("g", ("lo", "hi")), ("g", ("hi", "lo"))), ("hi", "hi")))
        self.assertEqual(glass.freshened(state, 1), ((fresh, fresh, ("g", ("hi", "lo"))), ("hi", "hi")))
        self.assertEqual(glass.cleared(state), (state[0], ("lo", "lo")))
        self.assertEqual(glass.freshened(state=state, number=2), glass.freshened(state, 2))
        self.assertEqual(glass.cleared(state=state), glass.cleared(state))

    def test_outcomes(self):
        glass = a_glass()
        self.assertEqual(glass.outcomes(()), ())
        self.assertEqual(glass.outcomes(order=(A,) * 12), ("pass",) * 12)
        self.assertEqual(glass.after(state=glass.start(1), number=0, item=A), glass.after(glass.start(1), 0, A))

    def test_against_its_lines(self):
        chance = random.Random(31)
        seen = []
        for _ in range(400):
            glass = random_glass(chance)
            many = chance.randrange(1, 4)
            plain, state = PlainGlass(glass.text, many), glass.start(many)
            self.assertEqual(state, plain.state())
            for _ in range(25):
                number, word = chance.randrange(many), chance.choice(("run",) * 8 + ("fresh", "clear"))
                if word == "run":
                    item = chance.choice(glass.all_items)
                    outcome, state = glass.after(state, number, item)
                    self.assertEqual(outcome, plain.run(number, item), glass.text)
                    seen.append(outcome)
                elif word == "fresh":
                    state = glass.freshened(state, number)
                    plain.fresh(number)
                else:
                    state = glass.cleared(state)
                    plain.clear()
                self.assertEqual(state, plain.state(), glass.text)
            order = tuple(chance.choice(glass.all_items) for _ in range(chance.randrange(13)))
            alone = PlainGlass(glass.text, 1)
            self.assertEqual(glass.outcomes(order), tuple(alone.run(0, item) for item in order))
        for outcome in ("pass", "fail", "skip"):
            self.assertGreater(seen.count(outcome), 500)

    def test_kept_state_leads_on_as_before(self):
        glass = two_groups_glass()
        kept = glass.after(glass.start(2), 0, A)[1]
        before = repr(kept)
        first = [glass.after(kept, number, item) for number in (0, 1) for item in (A, B, W)]
        glass.outcomes((A, B, W))
        glass.freshened(kept, 0)
        self.assertEqual([glass.after(kept, number, item) for number in (0, 1) for item in (A, B, W)], first)
        self.assertEqual(repr(kept), before)


class ErrorsTest(unittest.TestCase):
    def test_bad_many(self):
        for value in [value for value in any_values() if value is True or value not in (1, 2)] + [4, -1, 0, (1,)]:
            assert_raises(self, BadMany, value, a_glass().start, value)
            assert_raises(self, BadMany, value, a_glass().start, many=value)

    def test_no_worker(self):
        glass = a_glass()
        for many in (1, 2, 3):
            state = glass.start(many)
            for value in any_values() + [3]:
                if isinstance(value, bool) or value not in range(many):
                    assert_raises(self, NoWorker, value, glass.after, state, value, A)
                    assert_raises(self, NoWorker, value, glass.after, state=state, number=value, item=[])
                    assert_raises(self, NoWorker, value, glass.freshened, state, value)
                    assert_raises(self, NoWorker, value, glass.freshened, state=state, number=value)

    def test_no_item(self):
        glass = a_glass()
        for value in any_values() + [("a", True), ("a", 2), G, ("g", False), ["a", 1], "a", ("x", 1), ("a", 1, 1)]:
            assert_raises(self, NoItem, value, glass.after, glass.start(1), 0, value)
            assert_raises(self, NoItem, value, glass.after, state=glass.start(1), number=0, item=value)

    def test_bad_order(self):
        wrong = [value for value in any_values() if value != ()]
        wrong += [(value,) for value in any_values()] + [(A, value) for value in any_values()]
        wrong += [(A,) * 13, [A], A, (("a", True),), (G,), (("a", 2),), (["a", 1],), {A: A}, (A, G), ((A,),)]
        for value in wrong:
            assert_raises(self, BadOrder, value, a_glass().outcomes, value)
            assert_raises(self, BadOrder, value, a_glass().outcomes, order=value)


if __name__ == "__main__":
    unittest.main()

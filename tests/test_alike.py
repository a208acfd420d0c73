"""Point 7: alike and shows_alike."""

import itertools
import random
import unittest

from spoilorder.errors import BadMany, OtherItems, TooMany
from spoilorder.glasses import Glass
from spoilorder.machines import alike, shows_alike
from spoilorder.shops import Shop
from spoilorder.worlds import World
from tests.common import (
    A, B, FOUR_HUNDRED, G, H, ONE_MORE, V, a_glass, a_world, any_values, assert_raises, counting, one_group, some_otherwise,
    two_groups)
from tests.plain import is_plain_item, random_glass, random_world

KINDS = ((("pass", A), "spoils"), (("pass", B), "mends"))


def far_world():
    """The world of the document's example, with the mark of v in the store."""
    plain = tuple((thing, "near", "pass", ()) for thing in (A, B, G))
    return World(one_group(), plain + ((V, "far", "pass", KINDS),))


def all_moves(machine, many):
    numbers = range(many)
    runs = [("run", number, item) for number in numbers for item in machine.all_items]
    return [("clear",)] + [("fresh", number) for number in numbers] + runs


def do(machine, state, move):
    if move[0] == "run":
        return machine.after(state, move[1], move[2])
    return "", machine.cleared(state) if move[0] == "clear" else machine.freshened(state, move[1])


def unlike_places(one, other, many, moves):
    left, right, found = one.start(many), other.start(many), []
    for place, move in enumerate(moves):
        (told, left), (beside, right) = do(one, left, move), do(other, right, move)
        if told != beside:
            found.append(place)
    return found


def plain_pairs(one, other, many, steps=None):
    """The pairs to which rows of at most so many moves lead, which come out alike."""
    found = {(one.start(many), other.start(many))}
    fresh = list(found)
    while fresh and steps != 0:
        behind = set()
        for left, right in fresh:
            for move in all_moves(one, many):
                behind.add((do(one, left, move)[1], do(other, right, move)[1]))
        fresh = list(behind - found)
        found |= behind
        steps = None if steps is None else steps - 1
    return found


class AlikeTest(unittest.TestCase):
    def test_document(self):
        near, far = a_world(), far_world()
        self.assertEqual(alike(near, far, 1), ("parts", (("run", 0, A), ("clear",), ("run", 0, V))))
        self.assertEqual(alike(near, far, 2), ("parts", (("run", 0, A), ("run", 1, V))))

    def test_beside_itself(self):
        for machine in (a_world(), far_world(), a_glass()):
            for many in (1, 2):
                found = alike(one=machine, other=machine, many=many)
                self.assertEqual(found[0], "alike")
                self.assertEqual(found[1], tuple(sorted(plain_pairs(machine, machine, many))))
                self.assertTrue(all(left == right for left, right in found[1]))
                self.assertTrue(shows_alike(machine, machine, many, found))

    def test_world_beside_glass(self):
        for many in (1, 2):
            found = alike(a_world(), a_glass(), many)
            self.assertEqual(found[0], "alike")
            self.assertEqual(found[1], tuple(sorted(plain_pairs(a_world(), a_glass(), many))))
            self.assertEqual(alike(a_glass(), a_world(), many)[0], "alike")
        self.assertEqual(alike(far_world(), a_glass(), 2)[0], "parts")

    def test_other_temper(self):
        tempers = a_world().tempers[:-1]
        worse = World(one_group(), tempers + ((V, "near", "pass", KINDS[:1]),))
        self.assertEqual(alike(a_world(), worse, 1), ("parts", (("run", 0, A), ("run", 0, B), ("run", 0, V))))
        at_first = World(one_group(), tempers + ((V, "near", "fail", KINDS),))
        self.assertEqual(alike(a_world(), at_first, 1), ("parts", (("run", 0, V),)))

    def test_against_all_rows(self):
        chance = random.Random(11)
        seen = []
        for _ in range(150):
            one = random_world(chance, two_groups()) if chance.random() < 0.5 else random_glass(chance, 3)
            other = self.near_to(chance, one)
            many = chance.choice((1, 2))
            try:
                found = alike(one, other, many)
            except TooMany:
                seen.append("many")
                continue
            seen.append(found[0])
            longest = min(len(found[1]), 3) if found[0] == "parts" else 2
            rows = [
                row for size in range(1, longest + 1) for row in itertools.product(all_moves(one, many), repeat=size)]
            parting = [row for row in rows if unlike_places(one, other, many, row) == [len(row) - 1]]
            if found[0] == "alike":
                self.assertEqual(parting, [])
                self.assertEqual(found[1], tuple(sorted(plain_pairs(one, other, many))))
            elif len(found[1]) <= longest:
                self.assertEqual(found[1], parting[0])
            else:
                self.assertEqual(parting, [])
            self.assertTrue(shows_alike(one, other, many, found))
        self.assertGreater(seen.count("parts"), 20)
        self.assertGreater(seen.count("alike"), 20)

    def near_to(self, chance, one):
        """The machine itself, or one with one temper or line otherwise."""
        if isinstance(one, Glass):
            lines = one.text.split("\n")
            places = [place for place, line in enumerate(lines) if line.split()[0] in ("set", "want")]
            if places:
                place = chance.choice(places)
                words = lines[place].split(" ")
                choices = [cell[1] for cell in one.cells if cell[0] == words[-2]][0]
                lines[place] = " ".join(words[:-1] + [chance.choice(choices)])
            return Glass("\n".join(lines))
        if not one.tempers:
            return one
        place = chance.randrange(len(one.tempers))
        thing, where, first, kinds = one.tempers[place]
        temper = (thing, chance.choice(("near", "far", where)), first, kinds[1:] if chance.random() < 0.5 else kinds)
        return World(one.shop, one.tempers[:place] + (temper,) + one.tempers[place + 1:])


class ErrorsTest(unittest.TestCase):
    def test_other_items(self):
        fewer = World(one_group(), a_world().tempers[1:3])
        other_shop = World(two_groups(), ())
        bigger = World(Shop((("g", ("a", "b", "v")), ("h", ("w",)))), a_world().tempers)
        for one, other in [(a_world(), fewer), (fewer, a_world()), (a_world(), other_shop), (a_world(), bigger)]:
            for many in (1, 2, 0, None, "x", [1]):
                for call in (alike, lambda one, other, many: shows_alike(one, other, many, None)):
                    with self.assertRaises(OtherItems) as caught:
                        call(one, other, many)
                    self.assertEqual(caught.exception.value, other.all_items)

    def test_other_things_do_not_matter(self):
        shop = two_groups()
        one = World(shop, ((A, "near", "pass", ()), (G, "near", "pass", ())))
        other = World(shop, ((A, "near", "pass", ()), (G, "near", "pass", ()), (H, "near", "fail", ())))
        self.assertEqual(alike(one, other, 1)[0], "alike")

    def test_bad_many(self):
        wrong = [value for value in any_values() if isinstance(value, bool) or value not in (1, 2)] + [0, 3, -1, (1,)]
        for value in wrong:
            assert_raises(self, BadMany, value, alike, a_world(), far_world(), value)
            assert_raises(self, BadMany, value, alike, one=a_world(), other=far_world(), many=value)
            assert_raises(self, BadMany, value, shows_alike, a_world(), far_world(), value, ("parts", ()))

    def test_too_many(self):
        four_hundred, one_more = Glass(FOUR_HUNDRED), Glass(ONE_MORE)
        found = alike(four_hundred, four_hundred, 2)
        self.assertEqual(len(found[1]), 400)
        self.assertEqual(found[1], tuple(sorted(plain_pairs(four_hundred, four_hundred, 2))))
        self.assertTrue(shows_alike(four_hundred, four_hundred, 2, found))
        self.assertFalse(shows_alike(four_hundred, four_hundred, 2, ("alike", found[1][1:])))
        pairs = tuple(sorted(plain_pairs(one_more, one_more, 2)))
        self.assertEqual(len(pairs), 401)
        self.assertEqual(alike(one_more, one_more, 1)[0], "alike")
        self.assert_too_many(alike, one_more, one_more, 2)
        self.assert_too_many(shows_alike, one_more, one_more, 2, ("alike", pairs))

    def assert_too_many(self, call, *args):
        with self.assertRaises(TooMany) as caught:
            call(*args)
        self.assertEqual(caught.exception.number, 400)
        self.assertNotIsInstance(caught.exception.number, bool)

    def test_only_shorter_rows_count(self):
        one, other = Glass(counting(58, False)), Glass(counting(58, True))
        self.assertEqual(len(plain_pairs(one, other, 1, 133)), 400)
        found = alike(one, other, 1)
        self.assertEqual(found, ("parts", (("run", 0, A),) * 134))
        self.assertTrue(shows_alike(one, other, 1, found))
        one, other = Glass(counting(57, False)), Glass(counting(57, True))
        self.assertEqual(len(plain_pairs(one, other, 1, 134)), 403)
        self.assert_too_many(alike, one, other, 1)
        self.assert_too_many(shows_alike, one, other, 1, ("parts", (("run", 0, A),) * 135))
        self.assert_too_many(shows_alike, one, other, 1, None)

    def test_parting_early_among_many(self):
        # There are more than 400 pairs, but not by rows that are shorter than one that parts.
        one, other = Glass(ONE_MORE), Glass(ONE_MORE + "\n    want c hi")
        self.assertEqual(alike(one, other, 2), ("parts", (("run", 0, ("x", 1)),)))


class ShowsAlikeTest(unittest.TestCase):
    def test_any_row_that_parts_last(self):
        near, far = a_world(), far_world()
        for moves in [
                (("run", 0, A), ("run", 1, V)), (("run", 1, A), ("run", 0, V)),
                (("run", 0, A), ("fresh", 0), ("run", 0, V)), (("run", 0, A), ("clear",), ("run", 0, V)),
                (("clear",),) * 37 + (("run", 0, A), ("clear",), ("run", 0, V)),
                (("run", 0, V), ("run", 1, A), ("run", 1, A), ("run", 0, V))]:
            self.assertTrue(shows_alike(near, far, 2, ("parts", moves)))
            self.assertTrue(shows_alike(one=near, other=far, many=2, value=("parts", moves)))
        self.assertTrue(shows_alike(near, far, 1, ("parts", (("run", 0, A), ("fresh", 0), ("run", 0, V)))))

    def test_other_rows(self):
        near, far = a_world(), far_world()
        parting = (("run", 0, A), ("run", 1, V))
        for moves in [
                (), parting[:1], parting + (("clear",),), parting + (("run", 1, A),), parting + (("run", 1, V),),
                parting + parting, list(parting), (("run", 0, A), ("run", 2, V)), (("run", -1, A), ("run", 1, V)),
                (("run", False, A), ("run", 1, V)), (("run", 0, A), ("run", True, V)), (["run", 0, A], ("run", 1, V)),
                (("run", 0, A), ("run", 1, ("v", True))), (("run", 0, A), ("run", 1, ("v", 2))),
                (("run", 0, A), ("run", 1, V, None)), (("clear", 0),) + parting, (("fresh",),) + parting,
                (("fresh", 0, 0),) + parting, (("walk", 0, A),) + parting, (("run", 0, A, V),) + parting, (("gap", 0),) + parting, (("fresh", 2),) + parting, ((),) + parting,
                ("clear",) + parting, (("run", "0", A), ("run", 1, V)), None, "parts"]:
            self.assertFalse(shows_alike(near, far, 2, ("parts", moves)), moves)
        self.assertFalse(shows_alike(near, far, 1, ("parts", parting)))
        self.assertFalse(shows_alike(near, near, 2, ("parts", parting)))

    def test_pairs(self):
        found = alike(a_world(), a_glass(), 1)
        pairs = found[1]
        for other in [pairs[1:], pairs[:-1], pairs + pairs[-1:], pairs[::-1], list(pairs), (), (pairs,)]:
            self.assertFalse(shows_alike(a_world(), a_glass(), 1, ("alike", other)))
        self.assertFalse(shows_alike(a_glass(), a_world(), 1, found))
        self.assertFalse(shows_alike(a_world(), far_world(), 1, ("alike", pairs)))

    def test_one_thing_otherwise(self):
        chance = random.Random(12)
        found = alike(a_world(), a_glass(), 1)
        for other in some_otherwise(chance, found, 300):
            self.assertFalse(shows_alike(a_world(), a_glass(), 1, other))
        near, far = a_world(), far_world()
        for other in some_otherwise(chance, ("parts", (("fresh", 1), ("run", 1, A), ("run", 0, V))), 500):
            right = isinstance(other, tuple) and len(other) == 2 and other[0] == "parts"
            right = right and isinstance(other[1], tuple) and all(is_plain_move(near, move) for move in other[1])
            right = right and other[1] != () and unlike_places(near, far, 2, other[1]) == [len(other[1]) - 1]
            self.assertEqual(shows_alike(near, far, 2, other), right, other)

    def test_values_of_any_kind(self):
        near, far = a_world(), far_world()
        for value in any_values():
            self.assertIs(shows_alike(near, far, 2, value), False)
            self.assertIs(shows_alike(near, far, 2, ("parts", value)), False)
            self.assertIs(shows_alike(near, far, 2, ("parts", (value, ("run", 0, V)))), False)
            self.assertIs(shows_alike(near, far, 2, ("parts", (("run", 0, A), ("run", 1, value)))), False)
            self.assertIs(shows_alike(near, far, 2, ("parts", (("run", 0, A), ("run", value, V)))), value in (1,)
                          and value is not True)
            self.assertIs(shows_alike(near, near, 1, ("alike", value)), False)


def is_plain_move(machine, value):
    if not isinstance(value, tuple) or not value:
        return False
    if value == ("clear",):
        return True
    if len(value) < 2 or value[1].__class__ != int or value[1] not in (0, 1):
        return False
    return value[:1] + value[2:] == ("fresh",) or (
        len(value) == 3 and value[0] == "run" and is_plain_item(machine, value[2]))


if __name__ == "__main__":
    unittest.main()

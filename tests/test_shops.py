"""Point 4: shops and things."""

import unittest

from spoilorder.errors import BadShop, NoCheck
from spoilorder.shops import Shop
from spoilorder.worlds import World
from tests.common import any_values, assert_raises, one_group, two_groups

GOOD = [
    (("g", ("a",)),),
    (("g", ("a", "b", "c", "d")),),
    (("g", ("a",)), ("h", ("b",)), ("i", ("c",))),
    (("g", ("a", "b", "c", "d")), ("h", ("e",))),
    (("g", ("a", "b")), ("h", ("c", "d")), ("i", ("e",))),
    (("abcdefgh", ("ijklmnop", "z")),),
    (("b", ("z",)), ("c", ("a",))),
    (("g", ("pass",)), ("near", ("fail",)), ("run", ("close",))),
]
BAD = {
    "no group": (),
    "four groups": (("g", ("a",)), ("h", ("b",)), ("i", ("c",)), ("j", ("d",))),
    "no check": (("g", ()),),
    "no check in the second": (("g", ("a",)), ("h", ())),
    "five checks of a group": (("g", ("a", "b", "c", "d", "e")),),
    "six checks": (("g", ("a", "b", "c")), ("h", ("d", "e", "f"))),
    "six checks in three": (("g", ("a", "b", "c", "d")), ("h", ("e",)), ("i", ("f",))),
    "group of no letter": (("", ("a",)),),
    "group of nine letters": (("abcdefghi", ("a",)),),
    "check of no letter": (("g", ("",)),),
    "check of nine letters": (("g", ("abcdefghi",)),),
    "upper case": (("G", ("a",)),),
    "upper case check": (("g", ("A",)),),
    "digit": (("g", ("a1",)),),
    "blank": (("g", ("a ",)),),
    "line feed": (("g", ("a\n",)),),
    "underscore": (("g_", ("a",)),),
    "group twice": (("g", ("a",)), ("g", ("b",))),
    "check twice": (("g", ("a", "a")),),
    "check in two groups": (("g", ("a", "b")), ("h", ("b", "c"))),
    "check as its group": (("g", ("a", "g")),),
    "check as another group": (("g", ("a", "h")), ("h", ("b",))),
    "groups not ascending": (("h", ("a",)), ("g", ("b",))),
    "checks not ascending": (("g", ("b", "a")),),
    "list of groups": [("g", ("a",))],
    "list as a group": (["g", ("a",)],),
    "list of checks": (("g", ["a"]),),
    "string of checks": (("g", "abc"),),
    "one part": (("g",),),
    "three parts": (("g", ("a",), ()),),
    "no name as a group": ((1, ("a",)),),
    "no name as a check": (("g", (1,)),),
    "None as a check": (("g", (None,)),),
    "list as a check": (("g", (["a"],)),),
    "dict as a group": (({}, ("a",)),),
    "dict of groups": {"g": ("a",)},
    "a bare group": ("g", ("a",)),
    "tuple as a check": (("g", (("a",),)),),
}


class ShopTest(unittest.TestCase):
    def test_good(self):
        for groups in GOOD:
            shop = Shop(groups)
            self.assertEqual(shop.groups, groups)
            self.assertIsInstance(shop.groups, tuple)

    def test_bad(self):
        for why, groups in BAD.items():
            with self.subTest(why):
                assert_raises(self, BadShop, groups, Shop, groups)
                assert_raises(self, BadShop, groups, Shop, groups=groups)

    def test_any_value(self):
        for value in any_values():
            wrong = [value, (value,), (("g", ("a",)), value), (("g", ("a",), value),), (("g", ("a", value, "a")),)]
            if value not in ("x", "pass"):
                wrong += [((value, ("a",)),), (("g", (value,)),)]
            if value != ("x",):
                wrong += [(("g", value),)]
            for groups in wrong:
                assert_raises(self, BadShop, groups, Shop, groups)

    def test_checks_ascend_across_groups(self):
        self.assertEqual(Shop((("g", ("b", "z")), ("h", ("a", "c")))).checks, ("a", "b", "c", "z"))
        self.assertEqual(Shop((("b", ("z",)), ("c", ("a",)))).checks, ("a", "z"))

    def test_group_of(self):
        shop = Shop((("g", ("b", "z")), ("h", ("a", "c"))))
        self.assertEqual([shop.group_of(check) for check in shop.checks], ["h", "g", "h", "g"])
        self.assertEqual(shop.group_of(check="z"), "g")

    def test_group_of_no_check(self):
        shop = two_groups()
        for value in any_values() + ["g", "h", "z", "aa", ("a", 1), ("a",), ["a"], {"a": "a"}]:
            assert_raises(self, NoCheck, value, shop.group_of, value)
            assert_raises(self, NoCheck, value, shop.group_of, check=value)

    def test_equality(self):
        shop = two_groups()
        self.assertTrue(shop == two_groups())
        self.assertFalse(shop != two_groups())
        for groups in GOOD:
            self.assertFalse(shop == Shop(groups))
            self.assertTrue(shop != Shop(groups))
            self.assertTrue(Shop(groups) == Shop(tuple(list(groups))))
        for value in any_values() + [shop.groups, list(shop.groups), World(shop, ())]:
            self.assertFalse(shop == value)
            self.assertFalse(value == shop)
            self.assertTrue(shop != value)

    def test_a_call_that_raises_changes_nothing(self):
        shop = two_groups()
        self.assertRaises(NoCheck, shop.group_of, [])
        self.assertEqual((shop.groups, shop.checks), (two_groups().groups, ("a", "b", "v", "w")))


class ThingsTest(unittest.TestCase):
    def setUp(self):
        self.shop = two_groups()
        self.items = [(check, edition) for check in ("a", "b", "v", "w") for edition in range(1, 10)]
        self.openings = [("g", 0), ("h", 0)]
        self.letters = [(word, thing) for word in ("pass", "fail") for thing in self.items + self.openings]
        self.letters += [("close", "g"), ("close", "h")]
        self.letters += [(word, event) for word in ("cut", "gap") for event in range(30)]
        self.wrong = any_values() + [
            ("a", 0), ("a", 10), ("a", -1), ("a", True), ("a", False), ("a", None), ("a", "1"), ("a", (1,)), ("a", [1]),
            ("g", 1), ("g", False), ("g", True), ("g", None), ("g", "0"), ("x", 1), ("x", 0), ("A", 1), ("ab", 1),
            ["a", 1], ["g", 0], ("a",), ("a", 1, 1), ("g", 0, 0), (["a"], 1), ({}, 0), (("a",), 1), "a1", "a", "g",
            ("close", "a"), ("close", ("g", 0)), ("close", "x"), ("close", ["g"]), ("close", None), ("close", 0),
            ("close",), ("close", "g", 0), ["close", "g"], ("g",), ("g", -1),
            ("skip", ("a", 1)), ("pass", ("g", False)),
            ("pass", ("a", True)), ("pass", ("a", 0)), ("pass", ["a", 1]), ("pass", "a"), ("pass", "g"), ("fail", None),
            ("pass", ("a", 1), 0), ("pass",), ["pass", ("a", 1)], ("cut", True), ("cut", False), ("gap", True),
            ("cut", -1), ("cut", 30), ("gap", 30), ("cut", None), ("cut", "0"), ("gap", (0,)), ("gap", ("a", 1)),
            ("gap",), ("gap", 0, 0), ["gap", 0], ("gap", "g"), (("pass",), ("a", 1)), (["pass"], ("a", 1)),
            ({}, ("a", 1)), ("open", "g"), ("run", ("a", 1)), ("Pass", ("a", 1)), (True, ("a", 1)), (None, 0),
        ]

    def check(self, call, right):
        for value in right:
            self.assertIs(call(value), True, value)
            self.assertIs(call(value=value), True, value)
        others = self.wrong + self.items + self.openings + self.letters
        for value in [value for value in others if not any(value is one for one in right)]:
            self.assertIs(call(value), False, value)

    def test_is_item(self):
        self.check(self.shop.is_item, self.items)

    def test_is_thing(self):
        self.check(self.shop.is_thing, self.items + self.openings)

    def test_is_letter(self):
        self.check(self.shop.is_letter, self.letters)

    def test_of_this_shop(self):
        shop = one_group()
        self.assertTrue(self.shop.is_item(("w", 1)) and not shop.is_item(("w", 1)))
        self.assertTrue(self.shop.is_thing(("h", 0)) and not shop.is_thing(("h", 0)))
        self.assertTrue(self.shop.is_letter(("close", "h")) and not shop.is_letter(("close", "h")))


if __name__ == "__main__":
    unittest.main()

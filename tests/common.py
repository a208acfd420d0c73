"""What the tests share: shops, values of any kind, and a look at what a call raises."""

import copy

from spoilorder.shops import Shop
from spoilorder.worlds import World

A, B, V = ("a", 1), ("b", 1), ("v", 1)
G, H = ("g", 0), ("h", 0)


def one_group():
    return Shop((("g", ("a", "b", "v")),))


def two_groups():
    return Shop((("g", ("a", "b")), ("h", ("v", "w"))))


def deep(make, depth=30):
    value = 1
    for _ in range(depth):
        value = make(value)
    return value


def a_world():
    """The world of the document's example."""
    tempers = (
        (A, "near", "pass", ()),
        (B, "near", "pass", ()),
        (G, "near", "pass", ()),
        (V, "near", "pass", ((("pass", A), "spoils"), (("pass", B), "mends"))),
    )
    return World(one_group(), tempers)


def any_values():
    """Values of any kind, none of which is a name of a shop here, a shop's groups, a log or a filling but ()."""
    return [
        -1, 0, 1, 2, 5, 29, 30, 10 ** 18 - 1, True, False, None,
        "", "x", "pass", "Pass", "a ", "a1", "x" * 8000, "line\nfeed",
        ("x",), (1,), (0, 0), (None,), ((),), ((), ()), (True, False), ("pass", None, 1), (("run",),),
        [], [1], ["a", 1], [()], {}, {"a": 1}, {1: [2]}, {("a", 1): ()},
        ("a", [1]), ("a", {}), ([], {}), ({}, "a"), ("pass", []), ("pass", {}), ("cut", []), ("close", {}),
        deep(lambda value: (value,)), deep(lambda value: [value]), deep(lambda value: {"a": value}),
        deep(lambda value: ("pass", value)), a_world(), (a_world(), 1), ("pass", a_world()), [a_world()],
    ]


def assert_raises(case, error, told, call, *args, **named):
    """Asserts that the call raises just this error, with the very value told, and changes no argument."""
    before = copy.deepcopy((args, named))
    with case.assertRaises(error) as caught:
        call(*args, **named)
    case.assertEqual(caught.exception.__class__, error)
    kept = list(vars(caught.exception).values())
    case.assertEqual(len(kept), 1)
    case.assertIs(kept[0], told)
    case.assertEqual(before, (args, named))

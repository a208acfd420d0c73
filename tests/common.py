"""What the tests share: shops, values of any kind, and a look at what a call raises."""

import copy

from spoilorder.glasses import Glass
from spoilorder.shops import Shop
from spoilorder.worlds import World

A, B, V = ("a", 1), ("b", 1), ("v", 1)
G, H = ("g", 0), ("h", 0)


def one_group():
    return Shop((("g", ("a", "b", "v")),))


def two_groups():
    return Shop((("g", ("a", "b")), ("h", ("v", "w"))))


def deep(make, depth=30):
    value = 1
    for _ in range(depth):
        value = make(value)
    return value


def a_world():
    """The world of the document's example."""
    tempers = (
        (A, "near", "pass", ()),
        (B, "near", "pass", ()),
        (G, "near", "pass", ()),
        (V, "near", "pass", ((("pass", A), "spoils"), (("pass", B), "mends"))),
    )
    return World(one_group(), tempers)


def a_glass():
    """The glass of the document's example, which does the same as the world."""
    lines = ["cell c ok bad", "group g", "  check a 1", "    set c bad", "  check b 1", "    set c ok"]
    return Glass("\n".join(lines + ["  check v 1", "    want c ok"]))


def any_values():
    """Values of any kind, none of which is a name of a shop here, a shop's groups, a log or a filling but ()."""
    return [
        -1, 0, 1, 2, 5, 29, 30, 10 ** 18 - 1, True, False, None,
        "", "x", "pass", "Pass", "a ", "a1", "x" * 8000, "line\nfeed",
        ("x",), (1,), (0, 0), (None,), ((),), ((), ()), (True, False), ("pass", None, 1), (("run",),),
        [], [1], ["a", 1], [()], {}, {"a": 1}, {1: [2]}, {("a", 1): ()},
        ("a", [1]), ("a", {}), ([], {}), ({}, "a"), ("pass", []), ("pass", {}), ("cut", []), ("close", {}),
        deep(lambda value: (value,)), deep(lambda value: [value]), deep(lambda value: {"a": value}),
        deep(lambda value: ("pass", value)), a_world(), (a_world(), 1), ("pass", a_world()), [a_world()],
    ]


OTHER_WORDS = {
    "pass": "fail", "fail": "pass", "near": "far", "far": "near", "mends": "spoils", "spoils": "mends", "skip": "fail",
    "idle": "mends", "world": "clash", "clash": "world", "fails": "never", "never": "fails", "a": "b", "b": "a",
    "reasons": "more", "more": "reasons", "lie": "wild", "leaves": "feels", "feels": "leaves", "wild": "mends",
    "v": "a", "g": "h", "p": "q", "q": "p", "run": "fresh", "ok": "bad", "temper": "clash", "none": "world",
}


def otherwise(value):
    """The value with one thing otherwise, in each way."""
    if isinstance(value, tuple):
        yield list(value)
        for place, part in enumerate(value):
            yield value[:place] + value[place + 1:]
            yield value[:place] + (part,) + value[place:]
            if value[place + 1:] and part != value[place + 1]:
                yield value[:place] + (value[place + 1], part) + value[place + 2:]
            for other in otherwise(part):
                yield value[:place] + (other,) + value[place + 1:]
    elif isinstance(value, str):
        yield OTHER_WORDS.get(value, "x")
        yield None
    elif isinstance(value, int):
        if value in (0, 1):
            yield bool(value)
        yield from (value + 1, value - 1, str(value))
    elif isinstance(value, World):
        yield value.tempers
        for place, (thing, where, first, kinds) in enumerate(value.tempers):
            rest = (value.tempers[:place], value.tempers[place + 1:])
            other = (thing, where, OTHER_WORDS[first], kinds)
            yield World(value.shop, rest[0] + (other,) + rest[1])
            other = (thing, OTHER_WORDS[where], first, kinds)
            yield World(value.shop, rest[0] + (other,) + rest[1])
            for number, (letter, kind) in enumerate(kinds):
                turned = kinds[:number] + ((letter, OTHER_WORDS[kind]),) + kinds[number + 1:]
                yield World(value.shop, rest[0] + ((thing, where, first, turned),) + rest[1])
                fewer = kinds[:number] + kinds[number + 1:]
                yield World(value.shop, rest[0] + ((thing, where, first, fewer),) + rest[1])
        yield World(Shop((("zz", ("zy",)),)), ())
    else:
        yield "pass"


def some_otherwise(chance, value, many):
    """At most so many of the values with one thing otherwise."""
    found = list(otherwise(value))
    return found if len(found) <= many else chance.sample(found, many)


def assert_raises(case, error, told, call, *args, **named):
    """Asserts that the call raises just this error, with the very value told, and changes no argument."""
    before = copy.deepcopy((args, named))
    with case.assertRaises(error) as caught:
        call(*args, **named)
    case.assertEqual(caught.exception.__class__, error)
    kept = list(vars(caught.exception).values())
    case.assertEqual(len(kept), 1)
    case.assertIs(kept[0], told)
    case.assertEqual(before, (args, named))


FOUR_HUNDRED = """cell c ok bad
cell d ok bad
cell e ok bad
cell f ok bad
group g
  check a 1
    want c ok
  check b 1
    set d bad
    set e bad
group h
  check v 1
  check w 1
    want e bad
    set f bad
group k
  check x 1
    set c bad
    set d ok"""
# Twenty states for each of two workers; this one has 401 states of both and the store together.
ONE_MORE = """cell c lo mid hi
cell d ok bad
shared e ok bad
group g
  close
    copy d to e
    set c hi
  check a 1
group h
  close
    if e = bad
      set c mid
  check w 1
    copy e to d
    want e ok
group k
  close
    set d bad
  check x 1
    set c mid"""


def counting(number, failing):
    """The text of a glass of three groups that counts its runs from the number on, up to 191.

    Only the run behind 191 fails, if failing is True; so 1 + 3 * (191 - number) states come by shorter rows.
    """
    lines = ["cell carry n y"]
    for place in range(6):
        lines.append(f"cell {'abcdef'[place]} " + ("hi lo" if number >> place & 1 else "lo hi"))
    lines.append("cell top lo mid hi")
    steps = ["    set carry y"]
    for name in "abcdef":
        steps += ["    if carry = y", f"      if {name} = lo", f"        set {name} hi", "        set carry n"]
        steps += ["      else", f"        set {name} lo"]
    for word, behind in [("lo", "mid"), ("mid", "hi")]:
        steps += [f"    if top = {word}", "      if carry = y", f"        set top {behind}", "        set carry n"]
    steps += ["    if top = hi"] + (["      want carry n"] if failing else ["      if carry = y", "        set top lo"])
    for group, check in ["ga", "hb", "kc"]:
        lines += ["group " + group, f"  check {check} 1"] + steps
    return "\n".join(lines)

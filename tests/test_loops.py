"""Loops of the package: what one iterates over is not changed inside it, whatever name it has (L5 Iteration, L23)."""

import ast
import unittest
from pathlib import Path

PACKAGE = Path(__file__).resolve().parent.parent / "spoilorder"
CHANGING = set("append clear extend insert pop remove reverse setdefault update add discard sort".split())
HEAPS = {"heappush", "heappop", "heapify", "heapreplace", "heappushpop"}
VIEWS = {"items", "keys", "values"}
GETTING = {"get", "setdefault", "pop"}
PASSING = {"zip", "enumerate", "reversed", "map", "iter"}
COMPREHENSIONS = (ast.ListComp, ast.SetComp, ast.DictComp, ast.GeneratorExp)


def places(node):
    """Where the very thing can be kept that an expression gives: "xs", ".rows" of any object, "xs[]" for an item."""
    if isinstance(node, ast.Name):
        return [node.id]
    if isinstance(node, ast.Attribute):
        return ["." + node.attr]
    if isinstance(node, ast.Subscript):
        return [] if isinstance(node.slice, ast.Slice) else [place + "[]" for place in places(node.value)]
    if isinstance(node, ast.IfExp):
        return places(node.body) + places(node.orelse)
    if isinstance(node, ast.BoolOp):
        return [place for part in node.values for place in places(part)]
    if isinstance(node, ast.NamedExpr):
        return places(node.target) + places(node.value)
    return places_of_call(node) if isinstance(node, ast.Call) else []


def places_of_call(node):
    """The same for a call: of what is iterated through it, or what it gets out of a dict or a list."""
    if isinstance(node.func, ast.Name):
        return [place for part in node.args for place in places(part)] if node.func.id in PASSING else []
    if isinstance(node.func, ast.Attribute) and node.func.attr in VIEWS:
        return places(node.func.value)
    if isinstance(node.func, ast.Attribute) and node.func.attr in GETTING:
        return [place + "[]" for place in places(node.func.value)] + [
            place for part in node.args[1:] for place in places(part)]
    return []


class Names:
    """Which places of a function are given the same thing anywhere in it."""

    def __init__(self, function):
        self.links = {}
        for node in ast.walk(function):
            if isinstance(node, ast.Assign):
                for target in node.targets:
                    self.link(target, node.value)
            elif isinstance(node, ast.NamedExpr):
                self.link(node.target, node.value)

    def link(self, target, value):
        if isinstance(target, ast.Tuple):
            if isinstance(value, ast.Tuple) and len(value.elts) == len(target.elts):
                for part, given in zip(target.elts, value.elts):
                    self.link(part, given)
            return
        for one in places(target):
            for other in places(value):
                one, other = self.first(one), self.first(other)
                # An item of itself (xs = xs[0]) would have no end.
                if one != other and not one.startswith(other + "[]") and not other.startswith(one + "[]"):
                    self.links[one] = other

    def first(self, place):
        """The one place that stands for all that are given the same thing."""
        if place.endswith("[]"):
            place = self.first(place[:-2]) + "[]"
        return self.first(self.links[place]) if place in self.links else place


def changed(node):
    """The places that one statement or expression changes, without those within it."""
    if isinstance(node, ast.Call) and isinstance(node.func, ast.Attribute) and node.func.attr in CHANGING:
        return places(node.func.value)
    if isinstance(node, ast.Call) and isinstance(node.func, ast.Name) and node.func.id in HEAPS:
        return places(node.args[0])
    if isinstance(node, ast.Subscript) and isinstance(node.ctx, (ast.Store, ast.Del)):
        return places(node.value)
    return places(node.target) if isinstance(node, ast.AugAssign) else []


def loops(function):
    """What each loop and comprehension iterates over, and what is done inside it."""
    for node in ast.walk(function):
        if isinstance(node, ast.For):
            yield node.iter, node.body
        elif isinstance(node, COMPREHENSIONS):
            for part in node.generators:
                yield part.iter, [node]


def faults(tree):
    """(row, place) of each change, inside a loop, of what it iterates over."""
    found = set()
    for function in ast.walk(tree):
        if isinstance(function, ast.FunctionDef):
            names = Names(function)
            for over, body in loops(function):
                kept = {names.first(place) for place in places(over)}
                for node in [node for part in body for node in ast.walk(part)]:
                    found |= {(node.lineno, place) for place in changed(node) if names.first(place) in kept}
    return sorted(found)


def iterated_attributes(tree):
    """The attributes over which the objects of own classes are iterated."""
    for node in ast.walk(tree):
        if isinstance(node, ast.FunctionDef) and node.name == "__iter__":
            yield from [part.attr for part in ast.walk(node) if isinstance(part, ast.Attribute)]


def faults_of(*rows):
    """The faults of a function with these rows."""
    return faults(ast.parse("def f(self, xs, ys, k):\n" + "\n".join("    " + row for row in rows)))


class LoopsTest(unittest.TestCase):
    def setUp(self):
        self.trees = {path: ast.parse(path.read_text(encoding="utf-8")) for path in sorted(PACKAGE.glob("**/*.py"))}

    def test_package(self):
        for path, tree in self.trees.items():
            with self.subTest(path.name):
                self.assertEqual(faults(tree), [])

    def test_what_own_objects_iterate_over(self):
        """The list behind an own object is never changed, so it is not inside a loop over the object either."""
        barred = {"." + name for tree in self.trees.values() for name in iterated_attributes(tree)}
        self.assertIn(".events", barred)
        for path, tree in self.trees.items():
            for node in ast.walk(tree):
                self.assertEqual(barred & set(changed(node)), set(), f"{path.name}:{getattr(node, 'lineno', 0)}")

    def test_seen_by_name(self):
        self.assertEqual(faults_of("for x in xs:", "    xs.append(x)"), [(3, "xs")])
        for row in ("xs[k] = x", "del xs[k]", "xs += [x]", "xs.pop()", "heappush(xs, x)", "xs[k] += 1",
                    "ys[k], xs[k] = 1, 2"):
            self.assertEqual(faults_of("for x in xs:", "    if x:", "        " + row), [(4, "xs")], row)
        self.assertEqual(faults_of("return [xs.pop() for x in xs]"), [(2, "xs")])
        self.assertEqual(faults_of("return {x: y for x in xs for y in ys if ys.pop()}"), [(2, "ys")])

    def test_seen_through_views(self):
        for over in ("enumerate(xs)", "zip(ys, xs)", "reversed(xs)", "xs.items()", "enumerate(xs.values())",
                     "zip(ys, enumerate(xs))"):
            self.assertEqual(faults_of(f"for x in {over}:", "    xs.clear()"), [(3, "xs")], over)

    def test_seen_through_attributes_items_and_choices(self):
        self.assertEqual(faults_of("for x in self.rows:", "    ys.rows.append(x)"), [(3, ".rows")])
        self.assertEqual(faults_of("for x in xs[k]:", "    xs[k].append(x)"), [(3, "xs[]")])
        self.assertEqual(faults_of("for x in xs.get(k, ys):", "    xs[k].append(x)"), [(3, "xs[]")])
        for over in ("xs if k else ys", "xs or ys", "ys and xs", "k.get(0, xs)"):
            self.assertEqual(faults_of(f"for x in {over}:", "    xs.append(x)"), [(3, "xs")], over)

    def test_seen_by_another_name(self):
        longer = ("for x in xs:", "    longer = []", "    for y in rows:", "        longer.append(y)", "    rows = longer")
        self.assertEqual(faults_of("rows = [k]", *longer), [(6, "longer")])
        self.assertEqual(faults_of("for x in xs:", "    ys.append(x)", "ys = self.rows", "self.rows = xs"), [(3, "ys")])
        self.assertEqual(faults_of("rows, k = xs, 1", "for x in xs:", "    rows.append(x)"), [(4, "rows")])
        self.assertEqual(faults_of("row = xs[k]", "for x in row:", "    xs[0].append(x)"), [(4, "xs[]")])
        self.assertEqual(faults_of("rows = xs if k else ys", "for x in rows:", "    ys.append(x)"), [(4, "ys")])
        self.assertEqual(faults_of("if rows := xs:", "    for x in rows:", "        xs.append(x)"), [(4, "xs")])

    def test_not_seen(self):
        longer = ("for x in xs:", "    longer = []", "    for y in list(rows):", "        longer.append(y)")
        for rows in (
                ("for x in list(xs):", "    xs.append(x)"),
                ("for x in xs[:]:", "    xs.append(x)"),
                ("for x in sorted(xs):", "    del xs[x]"),
                ("for x in xs:", "    ys.append(x)", "return ys"),
                ("for x in xs:", "    ys = ys + [x]", "xs.clear()"),
                ("while xs:", "    for x in ys:", "        xs.append(x)"),
                ("for x in xs:", "    x.append(k)"),
                ("ys = list(xs)", "for x in xs:", "    ys.append(x)"),
                ("xs = xs[0]", "for x in ys:", "    xs.append(x)"),
                ("rows = [k]", *longer, "    rows = longer", "return rows")):
            self.assertEqual(faults_of(*rows), [], rows)


if __name__ == "__main__":
    unittest.main()

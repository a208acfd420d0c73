"""Point 2 and the interface: names, arguments, files, equal calls, arguments that stay as they were."""

import copy
import inspect
import unittest

from spoilorder import (
    asking, culprits as culprits_file, drawing, errors, glasses, logs, looks, machines, plans, shops, striking, worlds)
from spoilorder.asking import asked, shows_asked
from spoilorder.culprits import culprits, suspects
from spoilorder.drawing import drawn, drawn_under, glass_of, shows_drawn, shows_drawn_under
from spoilorder.glasses import Glass
from spoilorder.logs import fillings, is_log, letters, samples
from spoilorder.looks import shows_filled, shows_under
from spoilorder.machines import alike, shows_alike, shows_shrunk, shows_worst, shrunk, worst
from spoilorder.plans import (
    is_safe, mended, queue, shows_mended, shows_queue, shows_safe, shows_spread, spread)
from spoilorder.shops import Shop
from spoilorder.striking import filled, forecast, kinds, possible, under, wheres
from spoilorder.worlds import World
from tests.common import A, B, G, V, a_glass, a_world, any_values, one_group

MACHINE_METHODS = {
    "start": ["many"],
    "after": ["state", "number", "item"],
    "freshened": ["state", "number"],
    "cleared": ["state"],
    "outcomes": ["order"],
    "__eq__": ["other"],
}
LOOSE = ("*", "loose", ())
FUNCTIONS = {
    logs: {
        "is_log": ["shop", "value"],
        "fillings": ["shop", "log"],
        "letters": ["shop", "log", "filling"],
        "samples": ["shop", "log", "filling", "thing"],
    },
    machines: {
        "worst": ["machine", "thing"],
        "shows_worst": ["machine", "thing", "value"],
        "alike": ["one", "other", "many"],
        "shows_alike": ["one", "other", "many", "value"],
        "shrunk": ["machine", "order"],
        "shows_shrunk": ["machine", "order", "value"],
    },
    striking: {
        "filled": ["shop", "log"],
        "possible": ["shop", "log"],
        "forecast": ["shop", "log"],
        "under": ["shop", "log", "thing", "held"],
        "kinds": ["shop", "log", "thing", "letter"],
        "wheres": ["shop", "log", "thing"],
    },
    looks: {
        "shows_filled": ["shop", "log", "value"],
        "shows_under": ["shop", "log", "thing", "held", "value"],
    },
    drawing: {
        "drawn": ["machine", "many"],
        "drawn_under": ["machine", "many", "thing", "held"],
        "shows_drawn": ["machine", "many", "value"],
        "shows_drawn_under": ["machine", "many", "thing", "held", "value"],
        "glass_of": ["world"],
    },
    culprits_file: {
        "culprits": ["shop", "log", "event", "thing"],
        "suspects": ["shop", "log", "event", "thing"],
    },
    plans: {
        "is_safe": ["shop", "log", "runs", LOOSE],
        "shows_safe": ["shop", "log", "runs", "value", LOOSE],
        "spread": ["shop", "log", "items", "workers", LOOSE],
        "shows_spread": ["shop", "log", "items", "workers", "value", LOOSE],
        "queue": ["shop", "log", "items", "workers", LOOSE],
        "shows_queue": ["shop", "log", "items", "workers", "value", LOOSE],
        "mended": ["shop", "log", "items", "menders", "worker", "most"],
        "shows_mended": ["shop", "log", "items", "menders", "worker", "most", "value"],
    },
    asking: {
        "asked": ["shop", "log", "trials", "question", "most"],
        "shows_asked": ["shop", "log", "trials", "question", "most", "value"],
    },
}
METHODS = {
    Shop: {
        "__init__": ["groups"],
        "group_of": ["check"],
        "is_item": ["value"],
        "is_thing": ["value"],
        "is_letter": ["value"],
        "__eq__": ["other"],
    },
    World: {"__init__": ["shop", "tempers"], "agrees": ["log", "filling"], **MACHINE_METHODS},
    Glass: {"__init__": ["text"], **MACHINE_METHODS},
}
PROPERTIES = {
    Shop: ["groups", "checks"],
    World: ["shop", "tempers", "things", "all_items"],
    Glass: ["text", "shop", "all_items", "things", "cells"],
}


class InterfaceTest(unittest.TestCase):
    def parameters(self, call):
        """The names of the parameters; those behind a `*` behind one, with their defaults."""
        found = []
        for one in inspect.signature(call).parameters.values():
            if one.kind == one.KEYWORD_ONLY:
                found.append(("*", one.name, one.default))
            else:
                self.assertEqual((one.kind, one.default), (one.POSITIONAL_OR_KEYWORD, one.empty))
                found.append(one.name)
        return found

    def test_functions(self):
        for module, functions in FUNCTIONS.items():
            for name, names in functions.items():
                call = vars(module)[name]
                self.assertTrue(inspect.isfunction(call))
                self.assertEqual(call.__module__, module.__name__)
                self.assertEqual(self.parameters(call), names)

    def test_classes(self):
        for made, module in [(Shop, shops), (World, worlds), (Glass, glasses)]:
            self.assertEqual(made.__module__, module.__name__)
            self.assertEqual(made.__bases__, (object,))

    def test_methods_stand_in_the_class(self):
        for made, methods in METHODS.items():
            for name, names in methods.items():
                self.assertEqual(self.parameters(vars(made)[name]), ["self"] + names)

    def test_properties_stand_in_the_class(self):
        for made, names in PROPERTIES.items():
            for name in names:
                self.assertIsInstance(vars(made)[name], property)

    def test_properties_are_not_assigned(self):
        for value in (one_group(), a_world(), a_glass()):
            for name in PROPERTIES[value.__class__]:
                with self.assertRaises(AttributeError):
                    setattr(value, name, ())


class CallsTest(unittest.TestCase):
    def setUp(self):
        self.shop = one_group()
        self.world = a_world()
        self.glass = a_glass()
        self.log = (("run", "p", A, None), ("run", "q", V, "fail"), ("clear",), ("gap", "p"), ("run", "p", B, None))

    def calls(self):
        """Each function and method, with arguments that it takes."""
        shop, world, log, filling = self.shop, self.world, self.log, ("pass", "skip")
        state = world.start(2)
        return [
            (Shop, {"groups": shop.groups}),
            (shop.group_of, {"check": "a"}),
            (shop.is_item, {"value": A}),
            (shop.is_thing, {"value": G}),
            (shop.is_letter, {"value": ("gap", 3)}),
            (is_log, {"shop": shop, "value": log}),
            (fillings, {"shop": shop, "log": log}),
            (letters, {"shop": shop, "log": log, "filling": filling}),
            (samples, {"shop": shop, "log": log, "filling": filling, "thing": V}),
            (World, {"shop": shop, "tempers": world.tempers}),
            (world.agrees, {"log": log, "filling": filling}),
            (world.start, {"many": 3}),
            (world.after, {"state": state, "number": 1, "item": V}),
            (world.freshened, {"state": state, "number": 1}),
            (world.cleared, {"state": state}),
            (world.outcomes, {"order": (A, V, B, V)}),
        ] + self.machine_calls() + self.striking_calls() + self.planning_calls()

    def machine_calls(self):
        world, glass = self.world, self.glass
        state = glass.start(2)
        return [
            (Glass, {"text": glass.text}),
            (glass.start, {"many": 3}),
            (glass.after, {"state": state, "number": 1, "item": V}),
            (glass.freshened, {"state": state, "number": 1}),
            (glass.cleared, {"state": state}),
            (glass.outcomes, {"order": (A, V, B, V)}),
            (worst, {"machine": glass, "thing": V}),
            (worst, {"machine": world, "thing": A}),
            (shows_worst, {"machine": glass, "thing": V, "value": ("fails", (A, V))}),
            (alike, {"one": world, "other": glass, "many": 2}),
            (shows_alike, {"one": world, "other": glass, "many": 2, "value": ("parts", ())}),
            (shrunk, {"machine": world, "order": (B, A, A, V)}),
            (shows_shrunk, {"machine": world, "order": (B, A, A, V), "value": ("kept", (1, 3), ())}),
        ]

    def striking_calls(self):
        shop, log, held = self.shop, self.log, ("near", None, ((("pass", A), "idle"),))
        return [
            (filled, {"shop": shop, "log": log}),
            (shows_filled, {"shop": shop, "log": log, "value": filled(shop, log)}),
            (possible, {"shop": shop, "log": log}),
            (forecast, {"shop": shop, "log": log}),
            (under, {"shop": shop, "log": log, "thing": V, "held": held}),
            (shows_under, {"shop": shop, "log": log, "thing": V, "held": held, "value": under(shop, log, V, held)}),
            (kinds, {"shop": shop, "log": log, "thing": V, "letter": ("pass", A)}),
            (wheres, {"shop": shop, "log": log, "thing": V}),
        ]

    def planning_calls(self):
        shop, world, glass, held = self.shop, self.world, self.glass, ("near", None, ((("pass", A), "idle"),))
        told = (("run", "p", A, "pass"), ("run", "p", V, "fail"), ("clear",), ("fresh", "p"), ("run", "p", V, "pass"))
        runs, trials = (("run", "p", B, None), ("run", "q", V, None)), ((("run", "p", B, None),),)
        return [
            (drawn, {"machine": glass, "many": 2}),
            (shows_drawn, {"machine": world, "many": 2, "value": ("world", world)}),
            (drawn_under, {"machine": glass, "many": 1, "thing": V, "held": held}),
            (shows_drawn_under, {"machine": glass, "many": 1, "thing": V, "held": held, "value": ("clash", ())}),
            (glass_of, {"world": world}),
            (culprits, {"shop": shop, "log": told, "event": 1, "thing": V}),
            (suspects, {"shop": shop, "log": told, "event": 1, "thing": V}),
            (is_safe, {"shop": shop, "log": told, "runs": runs}),
            (shows_safe, {"shop": shop, "log": told, "runs": runs, "value": is_safe(shop, told, runs)}),
            (spread, {"shop": shop, "log": told, "items": (A, V), "workers": ("p", "q")}),
            (shows_spread, {"shop": shop, "log": told, "items": (A, V), "workers": ("p", "q"), "value": ("none", ())}),
            (queue, {"shop": shop, "log": told, "items": (A, V), "workers": ("p", "q")}),
            (shows_queue, {"shop": shop, "log": told, "items": (A, V), "workers": ("p", "q"), "value": ("none", ())}),
            (mended, {"shop": shop, "log": told, "items": (A,), "menders": (B,), "worker": "p", "most": 1}),
            (shows_mended, {
                "shop": shop, "log": told, "items": (A,), "menders": (B,), "worker": "p", "most": 1, "value": ("none", ())}),
            (asked, {"shop": shop, "log": told, "trials": trials, "question": ("where", V), "most": 1}),
            (shows_asked, {
                "shop": shop, "log": told, "trials": trials, "question": ("where", V), "most": 1, "value": ("open", ())}),
        ]

    def test_loose_by_name_only(self):
        runs = (("run", "p", B, None), ("run", "q", V, None))
        for call, args in [(is_safe, [runs]), (shows_safe, [runs, ("safe",)]), (spread, [(B, V), ("p",)]), (queue, [(B, V), ("p",)]),
                           (shows_spread, [(B, V), ("p",), None]), (shows_queue, [(B, V), ("p",), None])]:
            call(self.shop, self.log[:2], *args, loose=(B,))
            self.assertRaises(TypeError, call, self.shop, self.log[:2], *args, (B,))

    def test_by_position_and_by_name(self):
        for call, named in self.calls():
            before = copy.deepcopy(named)
            first = call(**named)
            self.assertEqual(call(*named.values()), first)
            self.assertEqual(call(**dict(reversed(named.items()))), first)
            self.assertEqual(first.__class__, call(**named).__class__)
            self.assertEqual(named, before)

    def test_tuples_all_through(self):
        def only_tuples(value):
            if isinstance(value, tuple):
                return all(only_tuples(part) for part in value)
            return value is None or isinstance(value, (str, int, World)) and not isinstance(value, bool)

        for call, named in self.calls():
            found = call(**named)
            if call not in (Shop, World, Glass) and not isinstance(found, bool):
                self.assertTrue(only_tuples(found), call)
        for value in (self.shop, self.world, self.glass):
            for name in PROPERTIES[value.__class__]:
                # The cells of a glass tell by a bool whether they are shared.
                self.assertTrue(name in ("shop", "cells") or only_tuples(getattr(value, name)))

    def test_properties_stay(self):
        for value in (self.shop, self.world, self.glass):
            before = [getattr(value, name) for name in PROPERTIES[value.__class__]]
            for call, named in self.calls():
                call(**named)
            for wrong in any_values():
                self.assertRaises(errors.NoCheck, self.shop.group_of, wrong)
                self.assertRaises(errors.BadOrder, self.world.outcomes, (wrong,))
                self.assertRaises(errors.BadOrder, self.glass.outcomes, (wrong,))
            self.assertEqual(before, [getattr(value, name) for name in PROPERTIES[value.__class__]])
        self.assertTrue(self.shop == one_group() and self.world == a_world() and self.glass == a_glass())

    def test_errors_are_value_errors(self):
        for call, wrong in [(Shop, []), (self.shop.group_of, []), (self.world.start, []), (self.world.outcomes, []),
                            (Glass, [])]:
            self.assertRaises(ValueError, call, wrong)
            self.assertRaises(errors.SpoilError, call, wrong)


if __name__ == "__main__":
    unittest.main()

"""Point 2 and the interface: names, arguments, files, equal calls, arguments that stay as they were."""

import copy
import inspect
import unittest

from spoilorder import (
    asking, blaming, cleaning, culprits as culprits_file, desks, drawing, driving, errors, glasses, hosts, logs, looks, machines,
    plans, reading, shops, showing, striking, worlds)
from spoilorder.asking import asked, shows_asked
from spoilorder.blaming import blamed, shows_blamed
from spoilorder.cleaning import cleaned, shows_cleaned, with_offers
from spoilorder.culprits import culprits, suspects
from spoilorder.desks import Desk
from spoilorder.drawing import drawn, drawn_under, glass_of, shows_drawn, shows_drawn_under
from spoilorder.driving import Runner, drive
from spoilorder.glasses import Glass
from spoilorder.hosts import Host
from spoilorder.logs import fillings, is_log, letters, samples
from spoilorder.looks import shows_filled, shows_under
from spoilorder.machines import alike, shows_alike, shows_shrunk, shows_worst, shrunk, worst
from spoilorder.plans import (
    is_safe, mended, queue, shows_mended, shows_queue, shows_safe, shows_spread, spread)
from spoilorder.reading import read_host, read_log, read_shop, read_torn, read_world
from spoilorder.shops import Shop
from spoilorder.showing import show_host, show_log, show_shop, show_world
from spoilorder.striking import filled, forecast, kinds, possible, under, wheres
from spoilorder.worlds import World
from tests.common import A, B, G, V, a_glass, a_world, any_values, one_group

MACHINE_METHODS = {
    "start": ["many"],
    "after": ["state", "number", "item"],
    "freshened": ["state", "number"],
    "cleared": ["state"],
    "outcomes": ["order"],
    "__eq__": ["other"],
}
LOOSE = ("*", "loose", ())
FUNCTIONS = {
    logs: {
        "is_log": ["shop", "value"],
        "fillings": ["shop", "log"],
        "letters": ["shop", "log", "filling"],
        "samples": ["shop", "log", "filling", "thing"],
    },
    machines: {
        "worst": ["machine", "thing"],
        "shows_worst": ["machine", "thing", "value"],
        "alike": ["one", "other", "many"],
        "shows_alike": ["one", "other", "many", "value"],
        "shrunk": ["machine", "order"],
        "shows_shrunk": ["machine", "order", "value"],
    },
    striking: {
        "filled": ["shop", "log"],
        "possible": ["shop", "log"],
        "forecast": ["shop", "log"],
        "under": ["shop", "log", "thing", "held"],
        "kinds": ["shop", "log", "thing", "letter"],
        "wheres": ["shop", "log", "thing"],
    },
    looks: {
        "shows_filled": ["shop", "log", "value"],
        "shows_under": ["shop", "log", "thing", "held", "value"],
    },
    drawing: {
        "drawn": ["machine", "many"],
        "drawn_under": ["machine", "many", "thing", "held"],
        "shows_drawn": ["machine", "many", "value"],
        "shows_drawn_under": ["machine", "many", "thing", "held", "value"],
        "glass_of": ["world"],
    },
    culprits_file: {
        "culprits": ["shop", "log", "event", "thing"],
        "suspects": ["shop", "log", "event", "thing"],
    },
    plans: {
        "is_safe": ["shop", "log", "runs", LOOSE],
        "shows_safe": ["shop", "log", "runs", "value", LOOSE],
        "spread": ["shop", "log", "items", "workers", LOOSE],
        "shows_spread": ["shop", "log", "items", "workers", "value", LOOSE],
        "queue": ["shop", "log", "items", "workers", LOOSE],
        "shows_queue": ["shop", "log", "items", "workers", "value", LOOSE],
        "mended": ["shop", "log", "items", "menders", "worker", "most"],
        "shows_mended": ["shop", "log", "items", "menders", "worker", "most", "value"],
    },
    asking: {
        "asked": ["shop", "log", "trials", "question", "most"],
        "shows_asked": ["shop", "log", "trials", "question", "most", "value"],
    },
    blaming: {
        "blamed": ["shop", "log", "prices", "most"],
        "shows_blamed": ["shop", "log", "prices", "most", "value"],
    },
    driving: {
        "drive": ["host", "runner", "most"],
    },
    cleaning: {
        "with_offers": ["glass", "offers"],
        "cleaned": ["glass", "offers", "prices", "many"],
        "shows_cleaned": ["glass", "offers", "prices", "many", "value"],
    },
    showing: {
        "show_shop": ["shop"],
        "show_log": ["shop", "log"],
        "show_world": ["world"],
        "show_host": ["host"],
    },
    reading: {
        "read_shop": ["text"],
        "read_log": ["shop", "text"],
        "read_world": ["shop", "text"],
        "read_host": ["text"],
        "read_torn": ["text"],
    },
}
METHODS = {
    Shop: {
        "__init__": ["groups"],
        "group_of": ["check"],
        "is_item": ["value"],
        "is_thing": ["value"],
        "is_letter": ["value"],
        "__eq__": ["other"],
    },
    World: {"__init__": ["shop", "tempers"], "agrees": ["log", "filling"], **MACHINE_METHODS},
    Glass: {"__init__": ["text"], **MACHINE_METHODS},
    Host: {
        "__init__": ["shop", "workers"],
        "fresh": ["worker"],
        "clear": [],
        "gap": ["worker"],
        "run": ["worker", "check", ("outcome", None)],
        "tell": ["event", "outcome"],
        "change": ["check"],
        "begin": ["checks"],
        "back": [],
        "possible": [],
        "forecast": [("events", ())],
        "suspects": ["event"],
        "blamed": ["prices", "most"],
        "next": ["worker", "checks"],
        "copy": [],
        "trial": [],
        "tried": ["deed", ("*", "keep", False)],
        "__eq__": ["other"],
        "__iter__": [],
    },
    Runner: {"__init__": ["machine", "workers"], "run": ["worker", "item"], "fresh": ["worker"], "clear": []},
    Desk: {"__init__": ["text"], "say": ["line"]},
}
PROPERTIES = {
    Shop: ["groups", "checks"],
    World: ["shop", "tempers", "things", "all_items"],
    Glass: ["text", "shop", "all_items", "things", "cells"],
    Host: ["shop", "workers", "log", "present", "left"],
    Runner: ["state"],
    Desk: ["host"],
}
HOST_TEXT = "workers p q\ngroup g a b v\nrun p a pass\nrun q v -\nclear\nbegin a b"


class InterfaceTest(unittest.TestCase):
    def parameters(self, call):
        """The names of the parameters, with their defaults; those behind a `*` behind one."""
        found = []
        for one in inspect.signature(call).parameters.values():
            if one.kind == one.KEYWORD_ONLY:
                found.append(("*", one.name, one.default))
            elif one.default is not one.empty:
                self.assertEqual(one.kind, one.POSITIONAL_OR_KEYWORD)
                found.append((one.name, one.default))
            else:
                self.assertEqual((one.kind, one.default), (one.POSITIONAL_OR_KEYWORD, one.empty))
                found.append(one.name)
        return found

    def test_functions(self):
        for module, functions in FUNCTIONS.items():
            for name, names in functions.items():
                call = vars(module)[name]
                self.assertTrue(inspect.isfunction(call))
                self.assertEqual(call.__module__, module.__name__)
                self.assertEqual(self.parameters(call), names)

    def test_classes(self):
        for made, module in [
                (Shop, shops), (World, worlds), (Glass, glasses), (Host, hosts), (Runner, driving), (Desk, desks)]:
            self.assertEqual(made.__module__, module.__name__)
            self.assertEqual(made.__bases__, (object,))

    def test_methods_stand_in_the_class(self):
        for made, methods in METHODS.items():
            for name, names in methods.items():
                self.assertEqual(self.parameters(vars(made)[name]), ["self"] + names)

    def test_properties_stand_in_the_class(self):
        for made, names in PROPERTIES.items():
            for name in names:
                self.assertIsInstance(vars(made)[name], property)

    def test_properties_are_not_assigned(self):
        for value in (one_group(), a_world(), a_glass(), read_host(HOST_TEXT), Runner(a_glass(), ("p",)), Desk(HOST_TEXT)):
            for name in PROPERTIES[value.__class__]:
                with self.assertRaises(AttributeError):
                    setattr(value, name, ())


class CallsTest(unittest.TestCase):
    def setUp(self):
        self.shop = one_group()
        self.world = a_world()
        self.glass = a_glass()
        self.log = (("run", "p", A, None), ("run", "q", V, "fail"), ("clear",), ("gap", "p"), ("run", "p", B, None))

    def calls(self):
        """Each function and method, with arguments that it takes."""
        shop, world, log, filling = self.shop, self.world, self.log, ("pass", "skip")
        state = world.start(2)
        return [
            (Shop, {"groups": shop.groups}),
            (shop.group_of, {"check": "a"}),
            (shop.is_item, {"value": A}),
            (shop.is_thing, {"value": G}),
            (shop.is_letter, {"value": ("gap", 3)}),
            (is_log, {"shop": shop, "value": log}),
            (fillings, {"shop": shop, "log": log}),
            (letters, {"shop": shop, "log": log, "filling": filling}),
            (samples, {"shop": shop, "log": log, "filling": filling, "thing": V}),
            (World, {"shop": shop, "tempers": world.tempers}),
            (world.agrees, {"log": log, "filling": filling}),
            (world.start, {"many": 3}),
            (world.after, {"state": state, "number": 1, "item": V}),
            (world.freshened, {"state": state, "number": 1}),
            (world.cleared, {"state": state}),
            (world.outcomes, {"order": (A, V, B, V)}),
        ] + self.machine_calls() + self.striking_calls() + self.planning_calls() + self.host_calls() + self.cleaning_calls()

    def machine_calls(self):
        world, glass = self.world, self.glass
        state = glass.start(2)
        return [
            (Glass, {"text": glass.text}),
            (glass.start, {"many": 3}),
            (glass.after, {"state": state, "number": 1, "item": V}),
            (glass.freshened, {"state": state, "number": 1}),
            (glass.cleared, {"state": state}),
            (glass.outcomes, {"order": (A, V, B, V)}),
            (worst, {"machine": glass, "thing": V}),
            (worst, {"machine": world, "thing": A}),
            (shows_worst, {"machine": glass, "thing": V, "value": ("fails", (A, V))}),
            (alike, {"one": world, "other": glass, "many": 2}),
            (shows_alike, {"one": world, "other": glass, "many": 2, "value": ("parts", ())}),
            (shrunk, {"machine": world, "order": (B, A, A, V)}),
            (shows_shrunk, {"machine": world, "order": (B, A, A, V), "value": ("kept", (1, 3), ())}),
        ]

    def striking_calls(self):
        shop, log, held = self.shop, self.log, ("near", None, ((("pass", A), "idle"),))
        return [
            (filled, {"shop": shop, "log": log}),
            (shows_filled, {"shop": shop, "log": log, "value": filled(shop, log)}),
            (possible, {"shop": shop, "log": log}),
            (forecast, {"shop": shop, "log": log}),
            (under, {"shop": shop, "log": log, "thing": V, "held": held}),
            (shows_under, {"shop": shop, "log": log, "thing": V, "held": held, "value": under(shop, log, V, held)}),
            (kinds, {"shop": shop, "log": log, "thing": V, "letter": ("pass", A)}),
            (wheres, {"shop": shop, "log": log, "thing": V}),
        ]

    def planning_calls(self):
        shop, world, glass, held = self.shop, self.world, self.glass, ("near", None, ((("pass", A), "idle"),))
        told = (("run", "p", A, "pass"), ("run", "p", V, "fail"), ("clear",), ("fresh", "p"), ("run", "p", V, "pass"))
        runs, trials = (("run", "p", B, None), ("run", "q", V, None)), ((("run", "p", B, None),),)
        return [
            (drawn, {"machine": glass, "many": 2}),
            (shows_drawn, {"machine": world, "many": 2, "value": ("world", world)}),
            (drawn_under, {"machine": glass, "many": 1, "thing": V, "held": held}),
            (shows_drawn_under, {"machine": glass, "many": 1, "thing": V, "held": held, "value": ("clash", ())}),
            (glass_of, {"world": world}),
            (culprits, {"shop": shop, "log": told, "event": 1, "thing": V}),
            (suspects, {"shop": shop, "log": told, "event": 1, "thing": V}),
            (is_safe, {"shop": shop, "log": told, "runs": runs}),
            (shows_safe, {"shop": shop, "log": told, "runs": runs, "value": is_safe(shop, told, runs)}),
            (spread, {"shop": shop, "log": told, "items": (A, V), "workers": ("p", "q")}),
            (shows_spread, {"shop": shop, "log": told, "items": (A, V), "workers": ("p", "q"), "value": ("none", ())}),
            (queue, {"shop": shop, "log": told, "items": (A, V), "workers": ("p", "q")}),
            (shows_queue, {"shop": shop, "log": told, "items": (A, V), "workers": ("p", "q"), "value": ("none", ())}),
            (mended, {"shop": shop, "log": told, "items": (A,), "menders": (B,), "worker": "p", "most": 1}),
            (shows_mended, {
                "shop": shop, "log": told, "items": (A,), "menders": (B,), "worker": "p", "most": 1, "value": ("none", ())}),
            (asked, {"shop": shop, "log": told, "trials": trials, "question": ("where", V), "most": 1}),
            (shows_asked, {
                "shop": shop, "log": told, "trials": trials, "question": ("where", V), "most": 1, "value": ("open", ())}),
        ]

    def host_calls(self):
        """What can be asked of a host without changing it."""
        host, log = read_host(HOST_TEXT), read_host(HOST_TEXT).log
        found = blamed(self.shop, log, (1, 2, 3, 4), 5)
        return [
            (Host, {"shop": self.shop, "workers": ("p", "q")}),
            (blamed, {"shop": self.shop, "log": log, "prices": (1, 2, 3, 4), "most": 5}),
            (shows_blamed, {"shop": self.shop, "log": log, "prices": (1, 2, 3, 4), "most": 5, "value": found}),
            (host.forecast, {"events": (("run", "p", B, None),)}),
            (host.blamed, {"prices": (1, 2, 3, 4), "most": 5}),
            (host.next, {"worker": "p", "checks": ("a", "b")}),
            (Desk("workers p q\ngroup g a b v\nrun p a pass").say, {"line": "why 0"}),
            (show_shop, {"shop": self.shop}),
            (show_log, {"shop": self.shop, "log": log}),
            (show_world, {"world": self.world}),
            (show_host, {"host": host}),
            (read_shop, {"text": "group g a b"}),
            (read_log, {"shop": self.shop, "text": "clear\nrun p a 1 -"}),
            (read_world, {"shop": self.shop, "text": "opening g near pass\nspoils close g"}),
            (read_host, {"text": HOST_TEXT}),
        ]

    def cleaning_calls(self):
        offers = (("g", "close", "c", "ok"), ("g", "open", "c", "ok"))
        told = {"glass": self.glass, "offers": offers, "prices": (2, 1), "many": 1}
        return [
            (with_offers, {"glass": self.glass, "offers": offers}),
            (cleaned, told),
            (shows_cleaned, {**told, "value": cleaned(**told)}),
        ]

    def test_what_changes_hosts_by_position_and_by_name(self):
        one, other = Host(self.shop, ("p", "q")), Host(self.shop, ("p", "q"))
        for name, told in [
                ("begin", {"checks": ("a", "b")}), ("fresh", {"worker": "p"}), ("clear", {}), ("gap", {"worker": "q"}),
                ("run", {"worker": "p", "check": "a", "outcome": "fail"}), ("run", {"worker": "p", "check": "a"}),
                ("tell", {"event": 3, "outcome": "pass"}), ("change", {"check": "v"}), ("back", {})]:
            method, twin = getattr(one, name), getattr(other, name)
            # Python takes no keywords for what has no parameters; all others take them in any sequence.
            self.assertEqual(method(*told.values()), twin(**dict(reversed(told.items()))))
            self.assertTrue(one == other)
        runner, beside = Runner(self.glass, ("p", "q")), Runner(workers=("p", "q"), machine=self.glass)
        self.assertEqual(drive(one, runner, 3), drive(most=3, runner=beside, host=other))
        self.assertTrue(one == other and runner.state == beside.state)
        self.assertTrue(read_torn(text=HOST_TEXT)[0] == read_torn(HOST_TEXT)[0])

    def test_loose_by_name_only(self):
        runs = (("run", "p", B, None), ("run", "q", V, None))
        for call, args in [(is_safe, [runs]), (shows_safe, [runs, ("safe",)]), (spread, [(B, V), ("p",)]), (queue, [(B, V), ("p",)]),
                           (shows_spread, [(B, V), ("p",), None]), (shows_queue, [(B, V), ("p",), None])]:
            call(self.shop, self.log[:2], *args, loose=(B,))
            self.assertRaises(TypeError, call, self.shop, self.log[:2], *args, (B,))

    def test_by_position_and_by_name(self):
        for call, named in self.calls():
            before = copy.deepcopy(named)
            first = call(**named)
            self.assertEqual(call(*named.values()), first)
            self.assertEqual(call(**dict(reversed(named.items()))), first)
            self.assertEqual(first.__class__, call(**named).__class__)
            self.assertEqual(named, before)

    def test_tuples_all_through(self):
        def only_tuples(value):
            if isinstance(value, tuple):
                return all(only_tuples(part) for part in value)
            return value is None or isinstance(value, (str, int, World)) and not isinstance(value, bool)

        made = (Shop, World, Glass, Host, with_offers, read_shop, read_world, read_host)

        for call, named in self.calls():
            found = call(**named)
            if call not in made and not isinstance(found, bool):
                self.assertTrue(only_tuples(found), call)
        for value in (self.shop, self.world, self.glass):
            for name in PROPERTIES[value.__class__]:
                # The cells of a glass tell by a bool whether they are shared.
                self.assertTrue(name in ("shop", "cells") or only_tuples(getattr(value, name)))

    def test_properties_stay(self):
        for value in (self.shop, self.world, self.glass):
            before = [getattr(value, name) for name in PROPERTIES[value.__class__]]
            for call, named in self.calls():
                call(**named)
            for wrong in any_values():
                self.assertRaises(errors.NoCheck, self.shop.group_of, wrong)
                self.assertRaises(errors.BadOrder, self.world.outcomes, (wrong,))
                self.assertRaises(errors.BadOrder, self.glass.outcomes, (wrong,))
            self.assertEqual(before, [getattr(value, name) for name in PROPERTIES[value.__class__]])
        self.assertTrue(self.shop == one_group() and self.world == a_world() and self.glass == a_glass())

    def test_errors_are_value_errors(self):
        for call, wrong in [(Shop, []), (self.shop.group_of, []), (self.world.start, []), (self.world.outcomes, []),
                            (Glass, [])]:
            self.assertRaises(ValueError, call, wrong)
            self.assertRaises(errors.SpoilError, call, wrong)


if __name__ == "__main__":
    unittest.main()

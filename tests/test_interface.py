"""Everything that the interface names is there, takes its arguments by their places, and refuses no webs first."""

import importlib
import inspect
import unittest

from tests.helping import NO_WEBS, PATH, refusal
from touchall.errors import NoWeb

FUNCTIONS = {
    "webs": "look_at_web(thing) places_of(web) price_of(web,place) near(web,place)",
    "parts": "without(web,some) parts(web) beside(one,other)",
    "sets": "is_set(web,thing) left_by(web,some) cost_of(web,some) needless(web,some) lean(web,some)",
    "texts": "written_web(web) read_web(text)",
    "rows": "look_at_rows(web,thing) worth_of(web,rows) bound_of(web,rows)",
    "tight": "is_tight(web,rows,some)",
    "halves": "lets_halves(web,thing) halves_cost(web,halves) halves_of(web)",
    "fixed": "lets_fixed(web,thing) fixed_by(chain) fixed_paper(web) fixed_of(web)",
    "steps": "fits(web,thing) after(web,step) back(web,step,some) forth(web,step,some)",
    "walks": "walked(web,steps) back_all(web,steps,some) forth_all(web,steps,some)",
    "shrinking": "fitting(web) made_small(web)",
    "trees": "claim_of(web,tree)",
    "seeking": "least_of(web,most)",
    "sides": "sides_of(web)",
    "pairing": "pairing_of(web)",
    "forests": "forest_least(web)",
    "strings": "edge_behind(web,place) string_least(web) sets_by_size(web)",
    "listing": "all_least(web,most)",
    "edges": "edge_of(web,place,most) lets_edge(web,place,thing)",
    "calls": "look_at_calls(web,thing) calls_back(web,calls) called_web(web,calls) called_set(web,calls,some) "
             "called_rows(web,calls,rows) called_halves(web,calls,halves) called_dues(web,calls,dues) "
             "called_chain(web,calls,chain) called_step(web,calls,step) called_tree(web,calls,tree)",
}
METHODS = {
    ("keeper", "Keeper"): "put_place(place,price) take_place(place) put_tie(one,other) take_tie(one,other) "
                          "set_price(place,price) undo() web() kept() least() tree()",
    ("desk", "Desk"): "say(row)",
}
FILES = ("errors", "flows", "rules", "folds")
TAKE_NO_WEB = ("read_web", "fixed_by")


def named(text):
    """Pairs of a name and its arguments' names."""
    return [(one.partition("(")[0], [arg for arg in one.partition("(")[2][:-1].split(",") if arg])
            for one in text.split()]


def taken(thing):
    return list(inspect.signature(thing).parameters)


class TestInterface(unittest.TestCase):
    def test_files(self):
        for name in list(FUNCTIONS) + [name for name, _ in METHODS] + list(FILES):
            self.assertTrue(inspect.ismodule(importlib.import_module("touchall." + name)))

    def test_functions(self):
        for file, text in FUNCTIONS.items():
            module = importlib.import_module("touchall." + file)
            for name, args in named(text):
                self.assertTrue(inspect.isfunction(getattr(module, name)), name)
                self.assertEqual(taken(getattr(module, name)), args, name)

    def test_classes(self):
        for (file, name), text in METHODS.items():
            kind = getattr(importlib.import_module("touchall." + file), name)
            self.assertEqual(taken(kind), ["web"] if name == "Keeper" else [])
            for method, args in named(text):
                self.assertEqual(taken(getattr(kind, method)), ["self"] + args, method)

    def test_no_web_ahead_of_all_else(self):
        for file, text in FUNCTIONS.items():
            for name, args in named(text):
                if name not in TAKE_NO_WEB:
                    ask = getattr(importlib.import_module("touchall." + file), name)
                    for thing in NO_WEBS:
                        self.assertEqual(refusal(ask, thing, *[None] * (len(args) - 1))[0], NoWeb, name)

    def test_of_two_no_webs_the_first_ones(self):
        beside = importlib.import_module("touchall.parts").beside
        bad = ([(1, 1), (2, 0)], [])
        self.assertEqual(refusal(beside, bad, None), (NoWeb, {"part": "places", "number": 1}))
        self.assertEqual(refusal(beside, None, bad), (NoWeb, {"part": "web", "number": None}))
        self.assertEqual(refusal(beside, PATH, bad), (NoWeb, {"part": "places", "number": 1}))


if __name__ == "__main__":
    unittest.main()

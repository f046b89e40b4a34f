"""The names and arguments of the interface, each defined in its own file."""

import inspect
import unittest
from importlib import import_module

FUNCTIONS = {
    "words": {
        "is_integer": "(value)",
        "check_number": "(what, value, low, high)",
        "read_number": "(text)",
    },
    "ratio": {
        "read_ratio": "(text)",
    },
    "lots": {
        "lot_of": "(copies, numbers)",
        "others": "(copies, lot)",
        "all_lots": "(copies)",
    },
    "worth": {
        "worth": "(chances, share, reads, writes)",
        "gain": "(chances, share, lot)",
    },
    "best": {
        **{
            name: "(chances, share)"
            for name in ["most_worth", "least_writes", "greatest_writes", "count_best", "best_writes"]
        },
        "is_best": "(chances, share, writes)",
    },
    "strict": {
        "heavy": "(chances)",
        "most_strict": "(chances, share)",
        "strict_writes": "(chances, share)",
        "is_best_strict": "(chances, share, writes)",
    },
    "curve": {
        "breaks": "(chances)",
    },
    "spans": {
        "best_span": "(chances, writes)",
        "wrong_lots": "(chances, share, writes)",
        "loss": "(chances, share, writes)",
        "copy_worth": "(chances, share, copy)",
        "copy_worths": "(chances, share)",
    },
    "votes": {
        "find_votes": "(family)",
    },
    "trades": {
        "check_trade": "(family, pairs)",
        "first_trade": "(family)",
    },
    "table": {
        "as_table": "(chances)",
        "up_moments": "(table, family)",
        "table_worth": "(table, share, reads, writes)",
        "table_gain": "(table, share, lot)",
    },
    "flows": {
        "check_flow": "(table, share, flow)",
        "told_flow": "(table, share)",
        "table_most": "(table, share)",
        "table_writes": "(table, share)",
    },
    "texts": {
        "write_store": "(chances, share)",
        "read_store": "(text)",
        "write_family": "(family)",
        "read_family": "(text)",
    },
    "console": {
        "console": "(chances, share, lines)",
    },
}

METHODS = {
    ("errors", "BadNumber"): {"__init__": "(self, what, value)"},
    ("errors", "BadLot"): {"__init__": "(self, place)"},
    ("errors", "NoMeeting"): {"__init__": "(self, read, write)"},
    ("errors", "BadTrade"): {"__init__": "(self, place, reason)"},
    ("errors", "BadFlow"): {"__init__": "(self, lot, member)"},
    ("errors", "BadText"): {"__init__": "(self, line)"},
    ("errors", "BadDeed"): {"__init__": "(self, place)"},
    ("errors", "TooMany"): {"__init__": "(self, limit)"},
    ("ratio", "Ratio"): {
        "__init__": "(self, over, under=1)",
        "__str__": "(self)",
        "divided": "(self, other)",
        "half": "()",
        **{
            f"__{sign}__": "(self, other)"
            for sign in ["eq", "lt", "le", "gt", "ge", "add", "radd", "sub", "rsub", "mul", "rmul"]
        },
    },
    ("family", "Family"): {
        "__init__": "(self, copies, *lots)",
        **{f"__{sign}__": "(self, other)" for sign in ["eq", "le", "or", "and"]},
        "__contains__": "(self, lot)",
        "__len__": "(self)",
        "__iter__": "(self)",
        "every": "(self)",
        "size": "(self)",
        "wider": "(self)",
        "meets": "(self, other)",
        "is_strict": "(self)",
        "dual": "(self)",
        "whole": "(copies)",
        "each": "(copies)",
    },
    ("chances", "Chances"): {
        "__init__": "(self, *chances)",
        "__eq__": "(self, other)",
        "__add__": "(self, other)",
        "__getitem__": "(self, at)",
        "__len__": "(self)",
        "__iter__": "(self)",
        "with_chance": "(self, copy, chance)",
        "alone": "(self, lot)",
        "up": "(self, family)",
        "decides": "(self, family, copy)",
    },
    ("curve", "Curve"): {
        "__init__": "(self, chances)",
        "__call__": "(self, share)",
        "__getitem__": "(self, at)",
        "__len__": "(self)",
        "__iter__": "(self)",
        "least": "(self, share)",
    },
    ("votes", "Votes"): {
        "__init__": "(self, quota, *votes)",
        "__eq__": "(self, other)",
        "family": "(self)",
        "dual": "(self)",
    },
    ("table", "Table"): {
        "__init__": "(self, copies, counts)",
        **{f"__{sign}__": "(self, other)" for sign in ["eq", "add", "mul", "rmul"]},
        "moments_of": "(self, lot)",
    },
    ("live", "Store"): {
        "__init__": "(self, chances, share)",
        "set_share": "(self, share)",
        "set_chance": "(self, copy, chance)",
        "add_copy": "(self, chance)",
        "drop_copy": "(self, copy)",
        "undo": "(self, count=1)",
        "do_all": "(self, *deeds)",
        "most": "(self)",
        "writes": "(self)",
        "strict": "(self)",
    },
}

STATIC_METHODS = [("ratio", "Ratio", "half"), ("family", "Family", "whole"), ("family", "Family", "each")]


class InterfaceTest(unittest.TestCase):
    def test_functions(self):
        for file, functions in FUNCTIONS.items():
            module = import_module(f"copyvotes.{file}")
            for name, arguments in functions.items():
                with self.subTest(file=file, name=name):
                    function = getattr(module, name)
                    self.assertEqual(function.__module__, module.__name__)
                    self.assertEqual(str(inspect.signature(function)), arguments)

    def test_methods_stand_in_the_class_itself(self):
        for (file, holder), methods in METHODS.items():
            module = import_module(f"copyvotes.{file}")
            owner = getattr(module, holder)
            self.assertEqual(owner.__module__, module.__name__)
            for name, arguments in methods.items():
                with self.subTest(file=file, holder=holder, name=name):
                    self.assertIn(name, vars(owner))
                    self.assertEqual(str(inspect.signature(getattr(owner, name))), arguments)

    def test_static_methods(self):
        for file, holder, name in STATIC_METHODS:
            owner = getattr(import_module(f"copyvotes.{file}"), holder)
            self.assertIsInstance(vars(owner)[name], staticmethod)

    def test_properties(self):
        store = vars(import_module("copyvotes.live").Store)
        self.assertIsInstance(store["chances"], property)
        self.assertIsInstance(store["share"], property)
        self.assertIsNot(store["share"].fset, None)

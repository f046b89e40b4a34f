"""What holds over the whole program: nothing passed is changed, what is returned is new, and the form of errors."""

import operator
import unittest
from importlib import import_module
from inspect import isgenerator

from copyvotes import best, curve, errors, flows, lots, ratio, spans, strict, table, texts, trades, votes, words, worth
from copyvotes.chances import Chances
from copyvotes.console import console
from copyvotes.family import Family
from copyvotes.live import Store
from copyvotes.ratio import Ratio
from copyvotes.table import Table
from copyvotes.votes import Votes
from tests.test_interface import FUNCTIONS, METHODS

HALF = Ratio(1, 2)


def shown(value):
    """All that can be seen of a value, as a value of its own."""
    if isinstance(value, (list, tuple)):
        return (type(value).__name__, [shown(part) for part in value])
    if isinstance(value, dict):
        return ("dict", [(shown(key), shown(part)) for key, part in value.items()])
    if isinstance(value, Things) or type(value).__module__.startswith("copyvotes."):
        return (type(value).__name__, shown(vars(value)))
    return (type(value).__name__, value)


class Things:
    """One of each thing that calls are handed, made anew."""

    def __init__(self):
        self.half = Ratio(1, 2)
        self.chances = Chances(Ratio(3, 4), Ratio(2, 3), HALF, Ratio(9, 10))
        self.lot = [2, 0, 2]
        self.family = Family(4, [0, 1], [2, 3])
        self.other = Family(4, (0, 2), (1, 3), (0, 1, 2))
        self.counts = {(0,): 6, (1,): 4, (1, 2): 3, (0, 1, 2, 3): 4, (): 1}
        self.table = Table(4, self.counts)
        self.flow = {((0,), 1): 2, ((1,), 2): Ratio(1, 3), ((2,), 0): 0}
        self.pairs = [([0, 1], [2, 0]), [(3, 2), (1, 3, 1)]]
        self.votes = Votes(2, 1, 1, 0, 1)
        self.curve = curve.Curve(self.chances)
        self.lines = ["most", "share 1/3", "add 1/2", "x", "undo", "table"]
        self.store = Store(self.chances, self.half)


FUNCTION_CALLS = {
    ("words", "is_integer"): lambda it: words.is_integer(it.lot),
    ("words", "check_number"): lambda it: words.check_number("n", 3, None, None),
    ("words", "read_number"): lambda it: words.read_number("12"),
    ("ratio", "read_ratio"): lambda it: ratio.read_ratio("6/8"),
    ("lots", "lot_of"): lambda it: lots.lot_of(4, it.lot),
    ("lots", "others"): lambda it: lots.others(4, it.lot),
    ("lots", "all_lots"): lambda it: lots.all_lots(3),
    ("worth", "worth"): lambda it: worth.worth(it.chances, it.half, it.family.dual(), it.family),
    ("worth", "gain"): lambda it: worth.gain(it.chances, it.half, it.lot),
    ("best", "most_worth"): lambda it: best.most_worth(it.chances, it.half),
    ("best", "least_writes"): lambda it: best.least_writes(it.chances, it.half),
    ("best", "greatest_writes"): lambda it: best.greatest_writes(it.chances, it.half),
    ("best", "is_best"): lambda it: best.is_best(it.chances, it.half, it.family),
    ("best", "count_best"): lambda it: best.count_best(it.chances, it.half),
    ("best", "best_writes"): lambda it: best.best_writes(it.chances, it.half),
    ("strict", "heavy"): lambda it: strict.heavy(it.chances),
    ("strict", "most_strict"): lambda it: strict.most_strict(it.chances, it.half),
    ("strict", "strict_writes"): lambda it: strict.strict_writes(it.chances, it.half),
    ("strict", "is_best_strict"): lambda it: strict.is_best_strict(it.chances, it.half, it.family),
    ("curve", "breaks"): lambda it: curve.breaks(it.chances),
    ("spans", "best_span"): lambda it: spans.best_span(it.chances, it.curve[1][4]),
    ("spans", "wrong_lots"): lambda it: spans.wrong_lots(it.chances, it.half, it.family),
    ("spans", "loss"): lambda it: spans.loss(it.chances, it.half, it.family),
    ("spans", "copy_worth"): lambda it: spans.copy_worth(it.chances, it.half, 1),
    ("spans", "copy_worths"): lambda it: spans.copy_worths(it.chances, it.half),
    ("votes", "find_votes"): lambda it: votes.find_votes(it.votes.family()),
    ("trades", "check_trade"): lambda it: trades.check_trade(it.family, it.pairs),
    ("trades", "first_trade"): lambda it: trades.first_trade(it.family),
    ("table", "as_table"): lambda it: table.as_table(it.chances),
    ("table", "up_moments"): lambda it: table.up_moments(it.table, it.family),
    ("table", "table_worth"): lambda it: table.table_worth(it.table, it.half, it.family.dual(), it.family),
    ("table", "table_gain"): lambda it: table.table_gain(it.table, it.half, it.lot),
    ("flows", "check_flow"): lambda it: flows.check_flow(it.table, it.half, it.flow),
    ("flows", "told_flow"): lambda it: flows.told_flow(it.table, it.half),
    ("flows", "table_most"): lambda it: flows.table_most(it.table, it.half),
    ("flows", "table_writes"): lambda it: flows.table_writes(it.table, it.half),
    ("texts", "write_store"): lambda it: texts.write_store(it.chances, it.half),
    ("texts", "read_store"): lambda it: texts.read_store("copies 1/2 2/3\nshare 1/3\n"),
    ("texts", "write_family"): lambda it: texts.write_family(it.family),
    ("texts", "read_family"): lambda it: texts.read_family("family 3\n2 1\n0\n"),
    ("console", "console"): lambda it: console(it.chances, it.half, it.lines),
}

METHOD_CALLS = {
    "Ratio": {
        "__init__": lambda it: Ratio(3, 6),
        "__str__": lambda it: str(it.half),
        "divided": lambda it: it.half.divided(it.chances[0]),
        "half": lambda it: Ratio.half(),
        **{
            f"__{name}__": lambda it, sign=getattr(operator, name): sign(it.half, it.chances[1])
            for name in ["eq", "lt", "le", "gt", "ge", "add", "sub", "mul"]
        },
        **{
            f"__r{name}__": lambda it, sign=getattr(operator, name): sign(3, it.half)
            for name in ["add", "sub", "mul"]
        },
    },
    "Family": {
        "__init__": lambda it: Family(4, it.lot, it.lot),
        **{
            f"__{name}__": lambda it, sign=getattr(operator, sign): sign(it.family, it.other)
            for name, sign in [("eq", "eq"), ("le", "le"), ("or", "or_"), ("and", "and_")]
        },
        "__contains__": lambda it: it.lot in it.family,
        "__len__": lambda it: len(it.family),
        "__iter__": lambda it: list(it.family),
        "every": lambda it: it.family.every(),
        "size": lambda it: it.family.size(),
        "wider": lambda it: it.family.wider(),
        "meets": lambda it: it.family.meets(it.other),
        "is_strict": lambda it: it.family.is_strict(),
        "dual": lambda it: it.family.dual(),
        "whole": lambda it: Family.whole(3),
        "each": lambda it: Family.each(3),
    },
    "Chances": {
        "__init__": lambda it: Chances(it.half, it.half),
        "__eq__": lambda it: it.chances == Chances(it.half),
        "__add__": lambda it: it.chances + it.chances,
        "__getitem__": lambda it: it.chances[2],
        "__len__": lambda it: len(it.chances),
        "__iter__": lambda it: list(it.chances),
        "with_chance": lambda it: it.chances.with_chance(0, it.half),
        "alone": lambda it: it.chances.alone(it.lot),
        "up": lambda it: it.chances.up(it.family),
        "decides": lambda it: it.chances.decides(it.family, 1),
    },
    "Curve": {
        "__init__": lambda it: curve.Curve(it.chances),
        "__call__": lambda it: it.curve(it.half),
        "__getitem__": lambda it: it.curve[0],
        "__len__": lambda it: len(it.curve),
        "__iter__": lambda it: list(it.curve),
        "least": lambda it: it.curve.least(it.half),
    },
    "Votes": {
        "__init__": lambda it: Votes(1, *it.lot),
        "__eq__": lambda it: it.votes == Votes(1, 1),
        "family": lambda it: it.votes.family(),
        "dual": lambda it: it.votes.dual(),
    },
    "Table": {
        "__init__": lambda it: Table(4, it.counts),
        "__eq__": lambda it: it.table == Table(4, it.counts),
        "__add__": lambda it: it.table + it.table,
        "__mul__": lambda it: it.table * 3,
        "__rmul__": lambda it: 3 * it.table,
        "moments_of": lambda it: it.table.moments_of(it.lot),
    },
    "Store": {
        "__init__": lambda it: Store(it.chances, it.half),
        "most": lambda it: it.store.most(),
        "writes": lambda it: it.store.writes(),
        "strict": lambda it: it.store.strict(),
    },
}
CHANGES = {
    "set_share": lambda store: store.set_share(Ratio(1, 3)),
    "set_chance": lambda store: store.set_chance(0, HALF),
    "add_copy": lambda store: store.add_copy(HALF),
    "drop_copy": lambda store: store.drop_copy(3),
    "do_all": lambda store: store.do_all(("set_share", HALF), ("drop_copy", 0)),
    "undo": lambda store: store.undo(),
}


def all_calls():
    rows = [(name, call) for (_, name), call in FUNCTION_CALLS.items()]
    rows += [(f"{holder}.{name}", call) for holder, calls in METHOD_CALLS.items() for name, call in calls.items()]
    return rows


def result_of(call, things):
    found = call(things)
    return list(found) if isgenerator(found) else found


def spoil(value):
    """Change all lists and dictionaries in a value."""
    if isinstance(value, (list, tuple)):
        for part in value:
            spoil(part)
    if isinstance(value, list):
        value.reverse()
        value.append("more")
    if isinstance(value, dict):
        value.clear()
        value["more"] = 1


class CallsTest(unittest.TestCase):
    def test_all_functions_and_methods_of_the_interface_are_called_here(self):
        self.assertEqual(set(FUNCTION_CALLS), {(file, name) for file in FUNCTIONS for name in FUNCTIONS[file]})
        for (file, holder), methods in METHODS.items():
            if file != "errors":
                told = set(METHOD_CALLS[holder]) | (set(CHANGES) if holder == "Store" else set())
                self.assertEqual(told, set(methods), holder)

    def test_no_call_changes_what_it_is_handed(self):
        for name, call in all_calls():
            with self.subTest(name):
                things, before = Things(), shown(Things())
                self.assertEqual(shown(things), before)
                result_of(call, things)
                self.assertEqual(shown(things), before)

    def test_a_call_returns_the_same_again_and_what_it_returned_may_be_changed(self):
        for name, call in all_calls():
            with self.subTest(name):
                things, before = Things(), shown(Things())
                first = result_of(call, things)
                told = shown(first)
                spoil(first)
                self.assertEqual(shown(things), before)
                self.assertEqual(shown(result_of(call, things)), told)

    def test_objects_hold_no_list_or_dictionary_that_was_passed(self):
        things = Things()
        made = [
            Family(4, things.lot), Table(4, things.counts), Store(things.chances, things.half), Votes(2, *things.lot),
            lots.lot_of(4, things.lot),
        ]
        before = shown(made)
        spoil([things.lot, things.counts])
        self.assertEqual(shown(made), before)

    def test_changes_return_none_and_leave_what_was_passed(self):
        for name, change in CHANGES.items():
            with self.subTest(name):
                things, chances = Things(), shown(Things().chances)
                things.store.set_share(Ratio(1, 7))
                self.assertIs(change(things.store), None)
                self.assertEqual(shown(things.chances), chances)

    def test_a_store_gives_no_list_away(self):
        store = Things().store
        store.do_all(("set_share", Ratio(1, 3)), ("drop_copy", 0))
        for value in [store.chances, store.share, store.depth, store.most(), store.writes(), store.strict()]:
            self.assertNotIsInstance(value, (list, dict))


class ErrorsTest(unittest.TestCase):
    def test_errors_derive_directly_from_the_base(self):
        module = import_module("copyvotes.errors")
        own = [value for value in vars(module).values() if isinstance(value, type)]
        self.assertEqual(len(own), 11)
        for error in own:
            self.assertEqual(error.__bases__, (ValueError,) if error is errors.VoteError else (errors.VoteError,))

    def test_a_call_that_raises_an_error_changes_nothing(self):
        wrong = [
            lambda it: Family(4, it.lot, [], [9]), lambda it: it.family | Family.each(3),
            lambda it: it.chances.with_chance(9, it.half), lambda it: it.chances.alone([0, 9]),
            lambda it: worth.worth(it.chances, it.half, it.family, it.family),
            lambda it: it.table * 0, lambda it: it.table + Table(3, {(): 1}),
            lambda it: Table(2, it.counts), lambda it: Table(4, {**it.counts, (3,): -1}),
            lambda it: trades.check_trade(it.family, it.pairs[:1]),
            lambda it: flows.check_flow(it.table, it.half, {**it.flow, ((0,), 0): 1}),
            lambda it: it.store.set_share(2), lambda it: it.store.drop_copy(4), lambda it: it.store.undo(),
            lambda it: it.store.do_all(("drop_copy", 0), ("drop_copy", 3)), lambda it: Votes(9, *it.lot),
            lambda it: console(it.chances, 1, it.lines), lambda it: it.curve[9],
        ]
        for place, call in enumerate(wrong):
            with self.subTest(place):
                things, before = Things(), shown(Things())
                with self.assertRaises(errors.VoteError):
                    call(things)
                self.assertEqual(shown(things), before)

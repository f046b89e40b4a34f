"""Trades that show that no votes have a family: promises [23] and [24]."""

import random
import unittest
from collections import Counter
from functools import cache
from itertools import combinations_with_replacement

from copyvotes.errors import BadTrade, TooMany
from copyvotes.family import Family
from copyvotes.trades import check_trade, first_trade
from copyvotes.votes import Votes, find_votes
from tests import plain
from tests.helpers import NO_COPY

TWO_PAIRS = Family(4, (0, 1), (2, 3))
RIGHT = [((0, 1), (0, 2)), ((2, 3), (1, 3))]


def together(lots):
    """How often each copy stands in the lots."""
    return Counter(copy for lot in lots for copy in lot)


@cache
def swaps(copies):
    """All pairs of lots, ascending, each with all pairs of lots, ascending, of the same copies."""
    pairs = list(combinations_with_replacement(plain.lots(copies), 2))
    same = {}
    for pair in pairs:
        same.setdefault(frozenset(together(pair).items()), []).append(pair)
    return [(pair, same[frozenset(together(pair).items())]) for pair in pairs]


def least_trade(copies, family):
    """The first trade of two pairs in the order that the document names, None if there is none."""
    for (first, second), taken in swaps(copies):
        if first in family and second in family:
            for third, fourth in taken:
                if third not in family and fourth not in family:
                    told = [tuple(sorted(lot)) for lot in (first, third, second, fourth)]
                    return [(told[0], told[1]), (told[2], told[3])]
    return None


def draw_pairs(draw, copies, family):
    """Pairs of which most have right given lots, and taken ones of the same copies, which are dealt out anew."""
    many = draw.randint(2, 4)
    given = draw.choices(plain.minimal(family), k=many)
    deals = [deal(draw, given) for _ in range(30)]
    taken = ([lots for lots in deals if not family.intersection(lots)] or deals)[0]
    spoiled = draw.randint(0, 4)
    if spoiled == 0:
        given[draw.randrange(many)] = draw.choice(plain.lots(copies))
    if spoiled == 1:
        taken[draw.randrange(many)] = draw.choice(plain.lots(copies))
    return [(frozenset(one), frozenset(other)) for one, other in zip(given, taken)]


def deal(draw, given):
    """As many lots of the same copies."""
    taken = [frozenset() for _ in given]
    for copy, times in together(given).items():
        for place in draw.sample(range(len(given)), times):
            taken[place] |= {copy}
    return taken


def judged(family, pairs):
    """The place and the reason of what is wrong with a trade, or "right" behind the number of pairs."""
    for place, (given, taken) in enumerate(pairs):
        if given not in family:
            return place, "given"
        if taken in family:
            return place, "taken"
    same = together(given for given, taken in pairs) == together(taken for given, taken in pairs)
    return len(pairs), "right" if same else "copies"


class CheckTest(unittest.TestCase):
    def assert_bad(self, place, reason, family, pairs):
        with self.assertRaises(BadTrade) as caught:
            check_trade(family, pairs)
        self.assertEqual((caught.exception.place, caught.exception.reason), (place, reason))

    def test_right_trades(self):
        self.assertIs(check_trade(TWO_PAIRS, RIGHT), True)
        self.assertIs(check_trade(TWO_PAIRS, RIGHT * 3), True)
        self.assertIs(check_trade(TWO_PAIRS, tuple(RIGHT)), True)
        self.assertIs(check_trade(TWO_PAIRS, [((0, 1), (1, 3)), ((2, 3), (0, 2))]), True)

    def test_three_pairs(self):
        family = Family(6, (0, 1), (2, 3), (4, 5))
        pairs = [((0, 1), (1, 2)), ((2, 3), (3, 4)), ((4, 5), (5, 0))]
        self.assertIs(check_trade(family, pairs), True)
        self.assert_bad(2, "copies", family, pairs[:2])
        self.assert_bad(4, "copies", family, pairs + pairs[:1])

    def test_an_empty_taken_lot(self):
        family = Family(6, (0, 1), (2, 3), (4, 5))
        for empty in [(), []]:
            self.assertIs(check_trade(family, [((0, 1), (0, 2, 4)), ((2, 3), (1, 3, 5)), ((4, 5), empty)]), True)
            self.assertIs(check_trade(family, [((0, 1), empty), ((2, 3), (1, 3, 5)), ((4, 5), (0, 2, 4))]), True)
        self.assert_bad(1, "copies", TWO_PAIRS, [((0, 1), ())])
        self.assert_bad(2, "copies", TWO_PAIRS, [((0, 1), (0, 2)), ((2, 3), ())])
        self.assert_bad(1, "copies", TWO_PAIRS, [((0, 1), [])])

    def test_lists_in_any_order_with_copies_twice(self):
        self.assertIs(check_trade(TWO_PAIRS, [[[1, 0, 1], [2, 0]], ([3, 2, 2, 3], (3, 1, 3, 3))]), True)
        self.assertIs(check_trade(TWO_PAIRS, [((0, 1), (0, 2, 0, 2)), ((2, 3), (1, 3))]), True)
        self.assert_bad(2, "copies", TWO_PAIRS, [((0, 1, 2, 2), (0, 2)), ((2, 3), (1, 3))])

    def test_the_first_bad_pair_with_given_ahead_of_taken(self):
        good = ((0, 1), (0, 2))
        given, taken, both = ((0, 2), (1, 3)), ((0, 1), (2, 3)), ((0, 3), (0, 1))
        self.assert_bad(0, "given", TWO_PAIRS, [given, taken])
        self.assert_bad(0, "taken", TWO_PAIRS, [taken, given])
        self.assert_bad(0, "given", TWO_PAIRS, [both])
        self.assert_bad(1, "given", TWO_PAIRS, [good, both, taken])
        self.assert_bad(1, "taken", TWO_PAIRS, [good, taken, both])
        self.assert_bad(2, "taken", TWO_PAIRS, [good, good, ((0, 1, 2), (0, 1, 2))])
        self.assert_bad(0, "given", TWO_PAIRS, [((), ())])

    def test_what_lot_of_refuses(self):
        for value in NO_COPY:
            if value != 3:
                with self.subTest(repr(value)):
                    self.assert_bad(0, "given", TWO_PAIRS, [((0, 1, value), (0, 2)), ((0, 2), (1, 3))])
                    self.assert_bad(1, "given", TWO_PAIRS, [RIGHT[0], ([value, 2, 3], [value])])
                    self.assert_bad(0, "taken", TWO_PAIRS, [((0, 1), (0, value)), ((0, 2), (1, 3))])
                    self.assert_bad(1, "taken", TWO_PAIRS, [RIGHT[0], ((2, 3), [value])])
        self.assert_bad(0, "given", TWO_PAIRS, [((0, 1, 4), (0, 2))])
        self.assert_bad(0, "taken", TWO_PAIRS, [((0, 1), (2, 4))])

    def test_values_that_are_no_lots(self):
        # The last ones yield copies, but are neither lists nor tuples.
        values = [None, 3, -1, 0, True, False, 1.0, "", "0", "0 1", object(), int, len, Family(4, (0, 1))]
        values += [b"", b"\0", b"\0\1", set(), {0, 1}, frozenset({0, 1}), {}, {0: 1, 1: 0}, range(2), iter([0, 1])]
        for value in values:
            with self.subTest(repr(value)):
                self.assert_bad(0, "given", TWO_PAIRS, [(value, (0, 2)), (None, None)])
                self.assert_bad(0, "given", TWO_PAIRS, [(value, (0, 1))])
                self.assert_bad(0, "given", TWO_PAIRS, [(value, value)])
                self.assert_bad(0, "given", TWO_PAIRS, [((0, 2), value)])
                self.assert_bad(0, "taken", TWO_PAIRS, [((0, 1), value), (value, (0, 2))])
                self.assert_bad(1, "given", TWO_PAIRS, [RIGHT[0], (value, (1, 3)), ((0, 1), value)])
                self.assert_bad(1, "taken", TWO_PAIRS, [RIGHT[0], ((2, 3), value)])
                self.assert_bad(2, "taken", TWO_PAIRS, RIGHT + [((0, 1), value)])

    def test_the_copies_come_last_with_the_number_of_pairs(self):
        self.assert_bad(0, "copies", TWO_PAIRS, [])
        self.assert_bad(0, "copies", TWO_PAIRS, ())
        self.assert_bad(1, "copies", TWO_PAIRS, RIGHT[:1])
        self.assert_bad(3, "copies", TWO_PAIRS, RIGHT + RIGHT[1:])
        self.assert_bad(2, "copies", TWO_PAIRS, [((0, 1), (0, 2)), ((2, 3), (0, 3))])
        self.assert_bad(2, "copies", TWO_PAIRS, [((0, 1), (0, 2)), ((2, 3), (3,))])
        self.assert_bad(2, "copies", TWO_PAIRS, [((0, 1), (0, 2)), ((2, 3, 0), (1, 3))])

    def test_each_copy_counts(self):
        # The last copy alone is given more often, or taken more often.
        for copies in range(5, 9):
            family = Family(copies, (0, 1), (2, 3))
            last = copies - 1
            self.assertIs(check_trade(family, RIGHT), True)
            self.assertIs(check_trade(family, [((0, 1, last), (0, 2, last)), RIGHT[1]]), True)
            self.assertIs(check_trade(family, [((0, 1, last), (0, 2)), ((2, 3), (1, 3, last))]), True)
            self.assert_bad(2, "copies", family, [((0, 1, last), (0, 2)), RIGHT[1]])
            self.assert_bad(2, "copies", family, [((0, 1), (0, 2, last)), RIGHT[1]])
            self.assert_bad(0, "given", family, [((0, 1, copies), (0, 2)), RIGHT[1]])
            self.assert_bad(1, "taken", family, [RIGHT[0], ((2, 3), (1, 3, copies))])

    def test_drawn_trades_against_the_words_of_the_document(self):
        draw = random.Random(111)
        told = Counter()
        for copies in range(4, 9):
            for _ in range(150):
                family = plain.above(copies, [draw.sample(range(copies), draw.randint(2, 3)) for _ in range(3)])
                pairs = draw_pairs(draw, copies, family)
                passed = [(sorted(given), tuple(taken)) for given, taken in pairs]
                expected = judged(family, pairs)
                told[expected[1]] += 1
                if expected[1] == "right":
                    self.assertIs(check_trade(plain.family_of(copies, family), passed), True)
                else:
                    self.assert_bad(*expected, plain.family_of(copies, family), passed)
        self.assertEqual([reason for reason in told if told[reason] < 30], [])
        self.assertEqual(set(told), {"right", "given", "taken", "copies"})

    def test_no_trade_is_accepted_where_votes_have_the_family(self):
        for family in [Votes(2, 1, 1, 1).family(), Votes(3, 2, 1, 1).family()]:
            for (first, second), taken in swaps(3):
                for third, fourth in taken:
                    pairs = [(tuple(first), tuple(third)), (tuple(second), tuple(fourth))]
                    with self.assertRaises(BadTrade):
                        check_trade(family, pairs)

    def test_the_pairs_stay_as_they_were(self):
        pairs = [([1, 0, 1], [2, 0]), ([3, 2], [3, 1])]
        check_trade(TWO_PAIRS, pairs)
        self.assertEqual(pairs, [([1, 0, 1], [2, 0]), ([3, 2], [3, 1])])
        pairs = [([1, 0, 1], [2, 0]), ([3, 2], [3, 3])]
        self.assert_bad(2, "copies", TWO_PAIRS, pairs)
        self.assertEqual(pairs, [([1, 0, 1], [2, 0]), ([3, 2], [3, 3])])
        self.assertEqual(TWO_PAIRS, Family(4, (0, 1), (2, 3)))

    def test_the_example_of_the_document(self):
        self.assertIs(check_trade(Family(4, (0, 1), (2, 3)), [((0, 1), (0, 2)), ((2, 3), (1, 3))]), True)


class FirstTest(unittest.TestCase):
    def assert_first(self, copies, family):
        made = plain.family_of(copies, family)
        found = first_trade(made)
        self.assertEqual(found, least_trade(copies, family))
        if found is not None:
            self.assertIs(check_trade(made, found), True)
            self.assertIs(find_votes(made), None)
        return found

    def test_all_families_of_up_to_four_copies(self):
        told = Counter()
        for copies in range(1, 5):
            for family in plain.families(copies):
                told[copies, self.assert_first(copies, family) is None] += 1
        # Up to three copies, each family is one of votes.
        self.assertEqual([told[copies, False] for copies in range(1, 4)], [0, 0, 0])
        self.assertGreater(told[4, False], 5)
        self.assertGreater(told[4, True], 100)

    def test_drawn_families_of_five_copies(self):
        draw = random.Random(112)
        found = [self.assert_first(5, plain.draw_family(draw, 5)) for _ in range(60)]
        self.assertGreater(len([one for one in found if one is not None]), 5)

    def test_a_few_by_hand(self):
        self.assertEqual(first_trade(TWO_PAIRS), [((0, 1), (0, 2)), ((2, 3), (1, 3))])
        self.assertEqual(first_trade(Family(4, (0, 2), (1, 3))), [((0, 2), (0, 1)), ((1, 3), (2, 3))])
        self.assertEqual(first_trade(Family(5, (2, 4), (1, 3))), [((1, 3), (1, 2)), ((2, 4), (3, 4))])
        self.assertIs(first_trade(Family(3, (0, 1), (0, 2), (1, 2))), None)
        self.assertIs(first_trade(Family(1, (0,))), None)

    def test_kinds(self):
        found = first_trade(TWO_PAIRS)
        self.assertIs(type(found), list)
        self.assertEqual([type(pair) for pair in found], [tuple, tuple])
        self.assertEqual({type(lot) for pair in found for lot in pair}, {tuple})
        found.clear()
        self.assertEqual(len(first_trade(TWO_PAIRS)), 2)

    def test_too_many_copies(self):
        for copies in [6, 7, 8]:
            for family in [Family(copies, (0, 1), (2, 3)), Family.each(copies), Family.whole(copies)]:
                with self.assertRaises(TooMany) as caught:
                    first_trade(family)
                self.assertEqual(caught.exception.limit, 5)
        self.assertEqual(len(first_trade(Family(5, (0, 1), (2, 3)))), 2)

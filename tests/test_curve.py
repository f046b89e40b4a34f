"""All shares: promises [19] and [20]."""

import operator
import random
import unittest
from fractions import Fraction

from copyvotes.best import least_writes, most_worth
from copyvotes.chances import Chances
from copyvotes.curve import Curve, breaks
from copyvotes.family import Family
from copyvotes.ratio import Ratio
from tests import plain
from tests.helpers import NO_SHARES, NumberTest

HALF = Ratio(1, 2)
THREE = Chances(Ratio(3, 4), Ratio(3, 4), Ratio(3, 4))


def cases(seed, most=6):
    """Chances of 1 to 6 copies, as Fractions and as the program's."""
    draw = random.Random(seed)
    for copies in range(1, most + 1):
        for fractions in plain.chances_to_try(draw, copies):
            yield draw, fractions, plain.chances_of(fractions)


def least(fractions, share):
    """The least writes at a share of any under, as lots."""
    copies = len(fractions)
    gaining = [lot for lot in plain.middle_lots(copies) if plain.gain(fractions, share, lot) > 0]
    return frozenset(gaining + [frozenset(range(copies))])


def most(fractions, share):
    """The greatest worth at a share of any under."""
    writes = least(fractions, share)
    return plain.worth(fractions, share, plain.dual(len(fractions), writes), writes)


def between(start, end):
    """Shares within a piece, of any under."""
    return [start + (end - start) * part for part in (Fraction(1, 7), Fraction(1, 2), Fraction(99, 100))]


class BreaksTest(NumberTest):
    def test_against_all_middle_lots(self):
        for _, fractions, chances in cases(71, 8):
            found = breaks(chances)
            self.assertIs(type(found), list)
            self.assertEqual(found, [plain.ratio_of(turn) for turn in plain.breaks(fractions)])

    def test_different_ones_ascending(self):
        for _, _, chances in cases(72):
            found = breaks(chances)
            for left, right in zip(found, found[1:]):
                self.assertLess(left, right)
            for turn in found:
                self.assertTrue(0 < turn and turn < 1)

    def test_one_copy_has_none(self):
        for chance in [HALF, Ratio(3, 4), Ratio(999, 1000)]:
            self.assertEqual(breaks(Chances(chance)), [])

    def test_a_few_by_hand(self):
        self.assertEqual([str(turn) for turn in breaks(THREE)], ["1/4", "3/4"])
        self.assertEqual([str(turn) for turn in breaks(Chances(HALF, HALF))], ["1/2"])
        self.assertEqual([str(turn) for turn in breaks(Chances(Ratio(3, 4), Ratio(2, 3)))], ["2/5", "3/5"])

    def test_an_under_above_a_thousand(self):
        found = breaks(Chances(Ratio(999, 1000), Ratio(998, 999), Ratio(2, 3)))
        self.assertGreater(max(turn.under for turn in found), 1000)

    def test_a_new_list(self):
        breaks(THREE).clear()
        self.assertEqual(len(breaks(THREE)), 2)


class RowsTest(NumberTest):
    def test_starts_and_ends(self):
        for _, fractions, chances in cases(73):
            bounds = [Ratio(0)] + [plain.ratio_of(turn) for turn in plain.breaks(fractions)] + [Ratio(1)]
            rows = list(Curve(chances))
            self.assertEqual([row[0] for row in rows], bounds[:-1])
            self.assertEqual([row[1] for row in rows], bounds[1:])

    def test_kinds(self):
        for row in Curve(THREE):
            self.assertIs(type(row), tuple)
            self.assertEqual([type(part) for part in row], [Ratio] * 4 + [Family])

    def test_most_worth_between_start_and_end_both_included(self):
        for _, fractions, chances in cases(74, 5):
            for row in Curve(chances):
                start, end, slope, height = [plain.fraction_of(part) for part in row[:4]]
                for share in [start, end] + between(start, end):
                    self.assertEqual(height + slope * share, most(fractions, share))

    def test_writes_are_the_least_ones_from_the_start_on(self):
        for _, fractions, chances in cases(75, 5):
            for row in Curve(chances):
                start, end = plain.fraction_of(row[0]), plain.fraction_of(row[1])
                for share in [start] + between(start, end):
                    self.assertEqual(plain.lots_of(row[4]), least(fractions, share))
            self.assertEqual(row[4], least_writes(chances, Ratio(1)))

    def test_slopes_rise_and_writes_shrink(self):
        for _, _, chances in cases(76):
            rows = list(Curve(chances))
            for left, right in zip(rows, rows[1:]):
                self.assertLess(left[2], right[2])
                self.assertTrue(right[4] <= left[4] and right[4] != left[4])

    def test_one_copy_has_one_piece(self):
        for chance in [HALF, Ratio(3, 4)]:
            curve = Curve(Chances(chance))
            self.assertEqual(list(curve), [(Ratio(0), Ratio(1), Ratio(0), chance, Family(1, (0,)))])

    def test_eight_copies(self):
        curve = Curve(Chances(*[Ratio(9, 10)] * 6, HALF, Ratio(2, 3)))
        self.assertEqual(len(curve), len(breaks(Chances(*[Ratio(9, 10)] * 6, HALF, Ratio(2, 3)))) + 1)
        self.assertEqual([curve[0][4], curve[len(curve) - 1][4]], [Family.each(8), Family.whole(8)])

    def test_len_iteration_and_items(self):
        for _, fractions, chances in cases(77, 4):
            curve = Curve(chances)
            self.assertEqual(len(curve), len(plain.breaks(fractions)) + 1)
            rows = list(curve)
            self.assertEqual([rows, [curve[place] for place in range(len(curve))]], [list(curve)] * 2)

    def test_a_wrong_place(self):
        curve = Curve(THREE)
        for value in [3, -1, 10 ** 30, True, False, None, "0", 1.0, (0,), slice(0, 1), HALF]:
            with self.subTest(repr(value)):
                self.assert_bad_number("place", value, operator.getitem, curve, value)
        self.assert_bad_number("place", 1, operator.getitem, Curve(Chances(HALF)), 1)

    def test_the_example_of_the_document(self):
        curve = Curve(THREE)
        found = [len(curve), str(breaks(THREE)[0]), str(curve[0][2]), str(curve[0][3]), str(curve(HALF))]
        self.assertEqual(found, [3, "1/4", "-9/16", "63/64", "27/32"])


class CallTest(NumberTest):
    def test_at_starts_and_ends_at_zero_and_one_and_between(self):
        for draw, fractions, chances in cases(78, 5):
            curve = Curve(chances)
            shares = plain.shares(fractions) + [plain.draw_share(draw) for _ in range(5)]
            for share in draw.sample(shares, min(len(shares), 15)) + [Fraction(0), Fraction(1)]:
                asked = plain.ratio_of(share)
                self.assertEqual(curve(asked), most_worth(chances, asked))
                self.assertEqual(curve.least(asked), least_writes(chances, asked))

    def test_at_each_break_that_may_be_a_share(self):
        tried = 0
        for _, _, chances in cases(79, 4):
            curve = Curve(chances)
            for turn in breaks(chances):
                if turn.under <= 1000:
                    tried += 1
                    self.assertEqual(curve(turn), most_worth(chances, turn))
                    self.assertEqual(curve.least(turn), least_writes(chances, turn))
        self.assertGreater(tried, 10)

    def test_a_few_by_hand(self):
        curve = Curve(THREE)
        two = Family(3, (0, 1), (0, 2), (1, 2))
        rows = [
            (Ratio(0), "63/64", Family.each(3)), (Ratio(249, 1000), "13509/16000", Family.each(3)),
            (Ratio(1, 4), "27/32", two), (Ratio(749, 1000), "27/32", two), (Ratio(3, 4), "27/32", Family.whole(3)),
            (Ratio(1), "63/64", Family.whole(3)),
        ]
        for share, told, writes in rows:
            self.assertEqual([str(curve(share)), curve.least(share)], [told, writes], str(share))

    def test_a_wrong_share(self):
        for chances in [THREE, Chances(HALF)]:
            curve = Curve(chances)
            for share in NO_SHARES:
                with self.subTest(str(share)):
                    self.assert_bad_number("share", share, curve, share)
                    self.assert_bad_number("share", share, curve.least, share)

    def test_breaks_with_an_under_above_a_thousand(self):
        chances = Chances(Ratio(999, 1000), Ratio(998, 999), Ratio(2, 3))
        curve = Curve(chances)
        for start, end, *_ in curve:
            for bound in [start, end]:
                if bound.under > 1000:
                    self.assert_bad_number("share", bound, curve, bound)
        for share in [Ratio(0), Ratio(1, 1000), HALF, Ratio(2, 3), Ratio(999, 1000), Ratio(1)]:
            self.assertEqual(curve(share), most_worth(chances, share))
            self.assertEqual(curve.least(share), least_writes(chances, share))

    def test_results_are_ratios(self):
        for share in [Ratio(0), HALF, Ratio(1)]:
            self.assertIs(type(Curve(THREE)(share)), Ratio)


class UnchangedTest(unittest.TestCase):
    def test_the_chances_stay_as_they_were(self):
        Curve(THREE)
        breaks(THREE)
        self.assertEqual(THREE, Chances(*[Ratio(3, 4)] * 3))

"""The most that is possible: promises [13] to [16]."""

import random
import unittest
from fractions import Fraction

from copyvotes.best import best_writes, count_best, greatest_writes, is_best, least_writes, most_worth
from copyvotes.chances import Chances
from copyvotes.errors import TooMany, Unlike
from copyvotes.family import Family
from copyvotes.ratio import Ratio
from copyvotes.worth import gain, worth
from tests import plain
from tests.helpers import NO_SHARES, NumberTest

HALF = Ratio(1, 2)
THREE = Chances(Ratio(3, 4), Ratio(3, 4), Ratio(3, 4))
FUNCTIONS = [most_worth, least_writes, greatest_writes, count_best, best_writes]


def small_cases(seed):
    """Chances of 1 to 3 copies, and some of 4, with many shares and the worth of all families of writes."""
    draw = random.Random(seed)
    for copies in range(1, 5):
        for fractions in plain.chances_to_try(draw, copies):
            rows = plain.ups(fractions)
            shares = plain.shares(fractions)
            if copies == 4:
                shares = draw.sample(shares, min(5, len(shares)))
            for share in shares:
                yield fractions, share, plain.worths(share, rows)


def best_families(values):
    greatest = max(values.values())
    return [writes for writes in values if values[writes] == greatest]


class MostTest(NumberTest):
    def test_against_all_families_of_writes_with_their_duals(self):
        for fractions, share, values in small_cases(41):
            found = most_worth(plain.chances_of(fractions), plain.ratio_of(share))
            self.assertEqual(found, plain.ratio_of(max(values.values())), (fractions, share))

    def test_against_all_two_families_that_meet(self):
        draw = random.Random(42)
        for copies in range(1, 4):
            fractions = plain.draw_chances(draw, copies)
            known = plain.families(copies)
            for share in [Fraction(0), Fraction(1, 3), Fraction(1)]:
                greatest = max(
                    plain.worth(fractions, share, reads, writes)
                    for reads in known for writes in known if plain.meet(reads, writes)
                )
                found = most_worth(plain.chances_of(fractions), plain.ratio_of(share))
                self.assertEqual(found, plain.ratio_of(greatest))

    def test_against_the_sum_that_the_document_tells(self):
        draw = random.Random(43)
        for copies in range(1, 9):
            chances, share = plain.chances_of(plain.draw_chances(draw, copies)), plain.ratio_of(plain.draw_share(draw))
            gains = [gain(chances, share, sorted(lot)) for lot in plain.lots(copies)]
            total = share + gains[-1] + sum([one for one in gains[1:-1] if one > 0])
            self.assertEqual(most_worth(chances, share), total)

    def test_the_gain_of_the_lot_of_all_copies_counts_also_if_it_is_negative(self):
        for copies in range(1, 9):
            chances = Chances(*[Ratio(2, 3)] * copies)
            self.assertLess(gain(chances, Ratio(1), tuple(range(copies))), 0)
            self.assertEqual(most_worth(chances, Ratio(1)), 1 - chances.alone(()))
        self.assertEqual(most_worth(Chances(HALF), Ratio(9, 10)), HALF)

    def test_one_copy(self):
        for share in [Ratio(0), Ratio(1, 3), HALF, Ratio(1)]:
            self.assertEqual(most_worth(Chances(Ratio(3, 4)), share), Ratio(3, 4))
            for function in [least_writes, greatest_writes]:
                self.assertEqual(function(Chances(Ratio(3, 4)), share), Family(1, (0,)))

    def test_results_are_ratios(self):
        for share in [Ratio(0), HALF, Ratio(1)]:
            for chances in [THREE, Chances(HALF)]:
                self.assertIs(type(most_worth(chances, share)), Ratio)

    def test_the_example_of_the_document(self):
        least = [least_writes(THREE, share).lots for share in [HALF, Ratio(3, 4)]]
        self.assertEqual(str(most_worth(THREE, HALF)), "27/32")
        self.assertEqual(least, [((0, 1), (0, 2), (1, 2)), ((0, 1, 2),)])


class LeastAndGreatestTest(NumberTest):
    def test_against_all_families_of_writes(self):
        for fractions, share, values in small_cases(44):
            chances, copies = plain.chances_of(fractions), len(fractions)
            known = best_families(values)
            least = plain.family_of(copies, frozenset.intersection(*known))
            greatest = plain.family_of(copies, frozenset.union(*known))
            told = (fractions, share)
            self.assertEqual(least_writes(chances, plain.ratio_of(share)), least, told)
            self.assertEqual(greatest_writes(chances, plain.ratio_of(share)), greatest, told)

    def test_both_reach_the_most(self):
        draw = random.Random(45)
        for copies in range(1, 9):
            chances = plain.chances_of(plain.draw_chances(draw, copies))
            for share in [Ratio(0), Ratio(1), HALF, plain.ratio_of(plain.draw_share(draw))]:
                most = most_worth(chances, share)
                for function in [least_writes, greatest_writes]:
                    writes = function(chances, share)
                    self.assertEqual(worth(chances, share, writes.dual(), writes), most)

    def test_equal_gains_and_gains_of_zero(self):
        for copies in range(1, 9):
            chances = Chances(*[HALF] * copies)
            self.assertEqual(least_writes(chances, HALF), Family.whole(copies))
            self.assertEqual(greatest_writes(chances, HALF), Family.each(copies))
            self.assertEqual(most_worth(chances, HALF), HALF)
            for share, family in [(Ratio(499, 1000), Family.each(copies)), (Ratio(501, 1000), Family.whole(copies))]:
                self.assertEqual([least_writes(chances, share), greatest_writes(chances, share)], [family] * 2)

    def test_at_a_break_and_just_below_and_above_it(self):
        two = Family(3, (0, 1), (0, 2), (1, 2))
        rows = [
            (Ratio(249, 1000), Family.each(3), Family.each(3)),
            (Ratio(1, 4), two, Family.each(3)),
            (Ratio(251, 1000), two, two),
            (Ratio(749, 1000), two, two),
            (Ratio(3, 4), Family.whole(3), two),
            (Ratio(751, 1000), Family.whole(3), Family.whole(3)),
        ]
        for share, least, greatest in rows:
            self.assertEqual([least_writes(THREE, share), greatest_writes(THREE, share)], [least, greatest])

    def test_shares_of_zero_and_one(self):
        for copies in range(2, 9):
            chances = Chances(*[Ratio(4, 5)] * copies)
            for function in [least_writes, greatest_writes]:
                self.assertEqual(function(chances, Ratio(0)), Family.each(copies))
                self.assertEqual(function(chances, Ratio(1)), Family.whole(copies))


class BestTest(NumberTest):
    def test_is_best_against_all_families(self):
        for fractions, share, values in small_cases(46):
            chances, greatest = plain.chances_of(fractions), max(values.values())
            share = plain.ratio_of(share)
            least, most = least_writes(chances, share), greatest_writes(chances, share)
            for family in values:
                writes = plain.family_of(len(fractions), family)
                self.assertIs(is_best(chances, share, writes), values[family] == greatest)
                self.assertIs(values[family] == greatest, least <= writes and writes <= most)

    def test_is_best_with_eight_copies(self):
        chances = Chances(*[Ratio(3, 4)] * 8)
        share = Ratio(1, 2)
        for writes in [least_writes(chances, share), greatest_writes(chances, share)]:
            self.assertIs(is_best(chances, share, writes), True)
        for writes in [Family.whole(8), Family.each(8), Family(8, (0,))]:
            self.assertIs(is_best(chances, share, writes), False)

    def test_count_best_and_best_writes_against_all_families(self):
        for fractions, share, values in small_cases(47):
            chances, share = plain.chances_of(fractions), plain.ratio_of(share)
            expected = [plain.family_of(len(fractions), family) for family in best_families(values)]
            found = best_writes(chances, share)
            self.assertIs(type(found), list)
            self.assertEqual(sorted(family.lots for family in found), sorted(family.lots for family in expected))
            self.assertEqual({family.copies for family in found}, {len(fractions)})
            self.assertEqual(count_best(chances, share), len(expected))

    def test_every_family_of_best_writes_once(self):
        for copies, many in [(1, 1), (2, 4), (3, 18), (4, 166)]:
            chances = Chances(*[HALF] * copies)
            found = [family.lots for family in best_writes(chances, HALF)]
            self.assertEqual([len(found), len(set(found)), count_best(chances, HALF)], [many] * 3)

    def test_best_writes_returns_a_new_list(self):
        best_writes(THREE, HALF).clear()
        self.assertEqual(best_writes(THREE, HALF), [Family(3, (0, 1), (0, 2), (1, 2))])

    def test_count_best_with_five_copies(self):
        half = Fraction(1, 2)
        cases = [([half] * 5, half), ([Fraction(3, 4)] * 5, half), ([Fraction(3, 4)] * 5, Fraction(3, 4))]
        cases += [([half, Fraction(2, 3), Fraction(2, 3), half, half], Fraction(2, 3)), ([half] * 5, Fraction(1))]
        for fractions, share in cases:
            chances, share = plain.chances_of(fractions), plain.ratio_of(share)
            least = plain.lots_of(least_writes(chances, share))
            greatest = plain.lots_of(greatest_writes(chances, share))
            known = [family for family in plain.families(5) if least <= family <= greatest]
            self.assertEqual(count_best(chances, share), len(known))
        self.assertEqual(count_best(Chances(*[HALF] * 5), HALF), 7579)

    def test_too_many_copies(self):
        for copies in range(1, 9):
            chances = Chances(*[Ratio(3, 4)] * copies)
            for function, limit in [(count_best, 5), (best_writes, 4)]:
                if copies <= limit:
                    function(chances, HALF)
                else:
                    with self.assertRaises(TooMany) as caught:
                        function(chances, HALF)
                    self.assertEqual(caught.exception.limit, limit)

    def test_a_wrong_share_comes_first(self):
        for share in NO_SHARES:
            for chances in [THREE, Chances(HALF), Chances(*[HALF] * 8)]:
                with self.subTest(str(share), copies=len(chances)):
                    for function in FUNCTIONS:
                        self.assert_bad_number("share", share, function, chances, share)
                    self.assert_bad_number("share", share, is_best, chances, share, Family.each(3))

    def test_is_best_with_another_number_of_copies(self):
        for share in [Ratio(0), HALF, Ratio(1)]:
            for copies in [1, 2, 4, 8]:
                for writes in [Family.whole(copies), Family.each(copies)]:
                    with self.assertRaises(Unlike):
                        is_best(THREE, share, writes)


class HoldingTest(unittest.TestCase):
    def cases(self, seed):
        draw = random.Random(seed)
        for copies in range(1, 8):
            for fractions in plain.chances_to_try(draw, copies):
                shares = plain.shares(fractions) if copies < 4 else [plain.draw_share(draw), Fraction(1, 2)]
                for share in shares:
                    yield draw, plain.chances_of(fractions), plain.ratio_of(share)

    def test_the_share_and_one_minus_the_share(self):
        for _, chances, share in self.cases(51):
            self.assertEqual(most_worth(chances, share), most_worth(chances, 1 - share))

    def test_the_dual_of_the_least_writes(self):
        for _, chances, share in self.cases(52):
            self.assertEqual(least_writes(chances, share).dual(), greatest_writes(chances, 1 - share))

    def test_a_copy_more(self):
        for draw, chances, share in self.cases(53):
            for more in [HALF, plain.ratio_of(plain.draw_chance(draw))]:
                before = most_worth(chances, share)
                self.assertLessEqual(before, most_worth(chances + Chances(more), share))
                self.assertLessEqual(before, most_worth(Chances(more) + chances, share))

    def test_a_greater_chance_of_one_copy(self):
        for draw, chances, share in self.cases(54):
            copy = draw.randrange(len(chances))
            for chance in [plain.ratio_of(plain.draw_chance(draw)), Ratio(999, 1000)]:
                if chance > chances[copy]:
                    greater = chances.with_chance(copy, chance)
                    self.assertLessEqual(most_worth(chances, share), most_worth(greater, share))

    def test_nothing_is_changed(self):
        writes = Family(3, (0,), (1, 2))
        is_best(THREE, HALF, writes)
        best_writes(THREE, HALF)
        self.assertEqual([THREE, writes], [Chances(*[Ratio(3, 4)] * 3), Family(3, (0,), (1, 2))])

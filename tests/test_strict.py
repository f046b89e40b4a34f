"""Writes that meet one another: promises [17] and [18]."""

import random
from fractions import Fraction

from copyvotes.best import least_writes, most_worth
from copyvotes.chances import Chances
from copyvotes.errors import Unlike
from copyvotes.family import Family
from copyvotes.ratio import Ratio
from copyvotes.strict import heavy, is_best_strict, most_strict, strict_writes
from copyvotes.worth import worth
from tests import plain
from tests.helpers import NO_SHARES, NumberTest

HALF = Ratio(1, 2)
THREE = Chances(Ratio(3, 4), Ratio(2, 3), Ratio(1, 2))
NEAR_HALF = [Fraction(499, 1000), Fraction(499, 999), Fraction(1, 2), Fraction(500, 999), Fraction(501, 1000)]


def weight(fractions, lot):
    product = Fraction(1)
    for copy in lot:
        product *= fractions[copy] / (1 - fractions[copy])
    return product


def is_strict(writes):
    return plain.meet(writes, writes)


def small_cases(seed):
    """Chances of 1 to 4 copies, shares below, at and above 1/2, and the worth of all strict writes with their duals."""
    draw = random.Random(seed)
    for copies in range(1, 5):
        for fractions in plain.chances_to_try(draw, copies):
            rows = [row for row in plain.ups(fractions) if is_strict(row[0])]
            shares = plain.shares(fractions) + NEAR_HALF
            for share in shares if copies < 3 else draw.sample(shares, 4) + [Fraction(1, 2)]:
                yield fractions, share, plain.worths(share, rows)


def drawn(seed, many=5):
    draw = random.Random(seed)
    for copies in range(1, 9):
        for _ in range(many):
            for fractions in plain.chances_to_try(draw, copies)[1:4]:
                yield draw, fractions, plain.chances_of(fractions)


class HeavyTest(NumberTest):
    def test_one_of_each_lot_and_the_lot_of_the_others_by_weight(self):
        for _, fractions, chances in drawn(61, 2):
            copies = len(fractions)
            found = plain.lots_of(heavy(chances))
            for lot in plain.lots(copies):
                left = plain.others(copies, lot)
                mine, theirs = weight(fractions, lot), weight(fractions, left)
                self.assertIs(lot in found, left not in found)
                self.assertIs(lot in found, mine > theirs or (mine == theirs and 0 in lot))

    def test_equal_weights_take_the_one_with_copy_zero(self):
        for copies in range(1, 9):
            self.assertEqual(heavy(Chances(*[HALF] * copies)), Family(copies, (0,)))
        self.assertEqual(heavy(Chances(*[Ratio(3, 4)] * 4)).lots, ((0, 1), (0, 2), (0, 3), (1, 2, 3)))
        self.assertEqual(heavy(Chances(HALF, Ratio(3, 4))), Family(2, (1,)))
        # 3 * 2 on either side.
        chances = Chances(Ratio(3, 4), Ratio(2, 3), Ratio(2, 3), Ratio(3, 4))
        self.assertIs((0, 1) in heavy(chances), True)
        self.assertIs((2, 3) in heavy(chances), False)

    def test_a_few_by_hand(self):
        # Weights 3, 2 and 1; 1, 9 and 1; 9, 2, 2 and 2; 7, 2, 2 and 2.
        self.assertEqual(heavy(THREE), Family(3, (0,)))
        self.assertEqual(heavy(Chances(HALF, Ratio(9, 10), HALF)), Family(3, (1,)))
        chances = Chances(Ratio(9, 10), Ratio(2, 3), Ratio(2, 3), Ratio(2, 3))
        self.assertEqual(heavy(chances), Family(4, (0,)))
        chances = Chances(Ratio(7, 8), Ratio(2, 3), Ratio(2, 3), Ratio(2, 3))
        self.assertEqual(heavy(chances), Family(4, (0, 1), (0, 2), (0, 3), (1, 2, 3)))

    def test_strict_and_its_own_dual(self):
        for _, fractions, chances in drawn(62):
            found = heavy(chances)
            self.assertIs(found.is_strict(), True)
            self.assertEqual(found.dual(), found)
            self.assertEqual([found.copies, found.size()], [len(fractions), 2 ** (len(fractions) - 1)])


class MostStrictTest(NumberTest):
    def test_against_all_strict_families(self):
        for fractions, share, values in small_cases(63):
            chances = plain.chances_of(fractions)
            found = most_strict(chances, plain.ratio_of(share))
            self.assertEqual(found, plain.ratio_of(max(values.values())), (fractions, share))

    def test_strict_writes_reach_it(self):
        for fractions, share, values in small_cases(64):
            found = plain.lots_of(strict_writes(plain.chances_of(fractions), plain.ratio_of(share)))
            self.assertEqual(values[found], max(values.values()))

    def test_shares_below_at_and_above_one_half(self):
        for draw, fractions, chances in drawn(65, 1):
            for share in [Fraction(0), Fraction(1), plain.draw_share(draw)] + NEAR_HALF:
                asked = plain.ratio_of(share)
                if share >= Fraction(1, 2):
                    expected = [most_worth(chances, asked), least_writes(chances, asked)]
                else:
                    expected = [chances.up(heavy(chances)), heavy(chances)]
                writes = strict_writes(chances, asked)
                self.assertEqual([most_strict(chances, asked), writes], expected)
                self.assertIs(writes.is_strict(), True)
                self.assertEqual(worth(chances, asked, writes.dual(), writes), most_strict(chances, asked))

    def test_the_least_writes_at_one_half_are_not_heavy(self):
        chances = Chances(HALF, HALF)
        self.assertEqual(strict_writes(chances, HALF), Family.whole(2))
        self.assertEqual(strict_writes(chances, Ratio(499, 1000)), Family(2, (0,)))

    def test_the_example_of_the_document(self):
        two = Chances(Ratio(3, 4), Ratio(3, 4))
        found = [heavy(two).lots, str(most_strict(two, Ratio(1, 4))), str(most_worth(two, Ratio(1, 4)))]
        self.assertEqual(found, [((0,),), "3/4", "27/32"])

    def test_a_wrong_share(self):
        for share in NO_SHARES:
            with self.subTest(str(share)):
                self.assert_bad_number("share", share, most_strict, THREE, share)
                self.assert_bad_number("share", share, strict_writes, THREE, share)

    def test_a_copy_more(self):
        for draw, fractions, chances in drawn(66, 3):
            if len(fractions) < 8:
                more = Chances(plain.ratio_of(plain.draw_chance(draw)))
                for share in [Ratio(0), HALF, plain.ratio_of(plain.draw_share(draw))]:
                    before = most_strict(chances, share)
                    self.assertLessEqual(before, most_strict(chances + more, share))
                    self.assertLessEqual(before, most_strict(more + chances, share))

    def test_a_greater_chance_of_one_copy(self):
        for draw, fractions, chances in drawn(67, 3):
            copy = draw.randrange(len(fractions))
            for chance in [plain.ratio_of(plain.draw_chance(draw)), Ratio(999, 1000)]:
                if chance > chances[copy]:
                    greater = chances.with_chance(copy, chance)
                    for share in [Ratio(1, 4), HALF, plain.ratio_of(plain.draw_share(draw))]:
                        self.assertLessEqual(most_strict(chances, share), most_strict(greater, share))

    def test_results_are_ratios(self):
        for share in [Ratio(0), HALF, Ratio(1)]:
            self.assertIs(type(most_strict(THREE, share)), Ratio)


class IsBestStrictTest(NumberTest):
    def test_against_all_families(self):
        for fractions, share, values in small_cases(68):
            chances, greatest = plain.chances_of(fractions), max(values.values())
            known = plain.families(len(fractions))
            if len(fractions) == 4:
                known = [family for family in known if values.get(family, 0) == greatest] + list(known)[::9]
            for family in known:
                found = is_best_strict(chances, plain.ratio_of(share), plain.family_of(len(fractions), family))
                self.assertIs(found, is_strict(family) and values[family] == greatest)

    def test_better_writes_that_are_not_strict(self):
        two = Chances(Ratio(3, 4), Ratio(3, 4))
        self.assertIs(is_best_strict(two, Ratio(1, 4), Family.each(2)), False)
        self.assertIs(is_best_strict(two, Ratio(1, 4), Family(2, (0,))), True)
        self.assertIs(is_best_strict(two, Ratio(1, 4), Family(2, (1,))), True)
        self.assertIs(is_best_strict(two, Ratio(1, 4), Family.whole(2)), False)
        # As good as the best, but not strict.
        self.assertIs(is_best_strict(Chances(HALF, HALF), HALF, Family.each(2)), False)
        self.assertIs(is_best_strict(Chances(HALF, HALF), HALF, Family.whole(2)), True)

    def test_eight_copies(self):
        chances = Chances(*[Ratio(3, 4)] * 7, HALF)
        for share in [Ratio(1, 3), HALF, Ratio(2, 3)]:
            self.assertIs(is_best_strict(chances, share, strict_writes(chances, share)), True)
            self.assertIs(is_best_strict(chances, share, Family(8, (0,))), False)

    def test_a_wrong_share_comes_before_unlike(self):
        for share in NO_SHARES:
            for copies in [3, 2, 8]:
                for writes in [Family.whole(copies), Family.each(copies)]:
                    self.assert_bad_number("share", share, is_best_strict, THREE, share, writes)

    def test_another_number_of_copies(self):
        for share in [Ratio(0), HALF, Ratio(1)]:
            for copies in [1, 2, 4, 8]:
                for writes in [Family.whole(copies), Family.each(copies)]:
                    with self.assertRaises(Unlike):
                        is_best_strict(THREE, share, writes)

    def test_nothing_is_changed(self):
        writes = Family(3, (0,), (1, 2))
        is_best_strict(THREE, HALF, writes)
        self.assertEqual([THREE.ratios, writes], [(Ratio(3, 4), Ratio(2, 3), HALF), Family(3, (0,), (1, 2))])

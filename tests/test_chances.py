"""Chances: promises [10] and [11]."""

import operator
import random
import unittest
from fractions import Fraction

from copyvotes.chances import Chances
from copyvotes.errors import BadNumber, Unlike
from copyvotes.family import Family
from copyvotes.ratio import Ratio
from tests import plain
from tests.helpers import NO_CHANCES, NO_COPY, EqualToAll, NumberTest

HALF = Ratio(1, 2)
THREE = (Ratio(3, 4), Ratio(1, 2), Ratio(9, 10))


def drawn(seed, many=6):
    """Drawn chances of 1 to 8 copies: the Fractions and the program's chances."""
    draw = random.Random(seed)
    for copies in range(1, 9):
        for _ in range(many):
            fractions = plain.draw_chances(draw, copies)
            yield draw, copies, fractions, plain.chances_of(fractions)


class MakingTest(NumberTest):
    def test_ratios(self):
        chances = Chances(*THREE)
        self.assertEqual(chances.ratios, THREE)
        self.assertIs(type(chances.ratios), tuple)

    def test_the_least_and_the_greatest_chances(self):
        for chance in [HALF, Ratio(999, 1000), Ratio(501, 1000), Ratio(500, 999), Ratio(998, 999), Ratio(1500, 2000)]:
            for copies in [1, 2, 8]:
                self.assertEqual(Chances(*[chance] * copies).ratios, (chance,) * copies)

    def test_their_number_comes_first(self):
        self.assert_bad_number("copies", 0, Chances)
        for many in [9, 10, 20]:
            self.assert_bad_number("copies", many, Chances, *[HALF] * many)
            self.assert_bad_number("copies", many, Chances, *["no chance"] * many)

    def test_the_first_that_is_no_chance(self):
        for value in NO_CHANCES:
            with self.subTest(str(value)):
                self.assert_bad_number("chance", value, Chances, value)
                self.assert_bad_number("chance", value, Chances, HALF, value, Ratio(2), "b", HALF)

    def test_the_very_value_is_kept(self):
        value = Ratio(1, 3)
        with self.assertRaises(BadNumber) as caught:
            Chances(HALF, value)
        self.assertIs(caught.exception.value, value)

    def test_the_example_of_the_document(self):
        with self.assertRaises(BadNumber) as caught:
            Chances(Ratio(3, 4), Ratio(1, 3))
        self.assertEqual(caught.exception.what, "chance")

    def test_a_passed_list_may_be_changed_later(self):
        ratios = list(THREE)
        chances = Chances(*ratios)
        ratios[0] = HALF
        self.assertEqual(chances.ratios, THREE)


class ReadingTest(NumberTest):
    def test_items(self):
        chances = Chances(*THREE)
        self.assertEqual([chances[0], chances[1], chances[2]], list(THREE))

    def test_a_wrong_place(self):
        for value in NO_COPY + [slice(0, 2)]:
            with self.subTest(repr(value)):
                self.assert_bad_number("copy", value, operator.getitem, Chances(*THREE), value)
        self.assert_bad_number("copy", 1, operator.getitem, Chances(HALF), 1)
        self.assert_bad_number("copy", 8, operator.getitem, Chances(*[HALF] * 8), 8)

    def test_len_and_iteration(self):
        for _, copies, fractions, chances in drawn(21):
            self.assertEqual(len(chances), copies)
            expected = [plain.ratio_of(fraction) for fraction in fractions]
            self.assertEqual([list(chances), list(chances)], [expected] * 2)
            self.assertEqual([chances[copy] for copy in range(copies)], expected)

    def test_equal_chances(self):
        for _, _, fractions, chances in drawn(22):
            same = plain.chances_of(fractions)
            self.assertIs(chances == same, True)
            self.assertIs(chances != same, False)

    def test_other_chances(self):
        others = [THREE[:2], THREE[::-1], THREE + THREE[:1], (HALF,), THREE[:2] + (Ratio(91, 100),)]
        for ratios in others:
            self.assertIs(Chances(*THREE) == Chances(*ratios), False)
            self.assertIs(Chances(*THREE) != Chances(*ratios), True)

    def test_values_of_another_class(self):
        chances = Chances(*THREE)
        for value in [THREE, list(THREE), None, 3, "chances", EqualToAll()]:
            with self.subTest(repr(value)):
                self.assertIs(chances == value, False)
                self.assertIs(chances != value, True)


class ChangingTest(NumberTest):
    def test_plus(self):
        for left in range(1, 8):
            for right in range(1, 9 - left):
                draw = random.Random(left * 10 + right)
                mine, theirs = plain.draw_chances(draw, left), plain.draw_chances(draw, right)
                found = plain.chances_of(mine) + plain.chances_of(theirs)
                self.assertIs(type(found), Chances)
                self.assertEqual(found.ratios, plain.chances_of(mine + theirs).ratios)

    def test_plus_with_too_many(self):
        for left, right in [(8, 1), (1, 8), (5, 4), (8, 8)]:
            mine, theirs = Chances(*[HALF] * left), Chances(*[HALF] * right)
            self.assert_bad_number("copies", left + right, operator.add, mine, theirs)

    def test_with_chance(self):
        chances = Chances(*THREE)
        new = Ratio(7, 8)
        self.assertEqual(chances.with_chance(0, new), Chances(new, *THREE[1:]))
        self.assertEqual(chances.with_chance(1, new), Chances(THREE[0], new, THREE[2]))
        self.assertEqual(chances.with_chance(2, new), Chances(*THREE[:2], new))
        self.assertEqual(chances.with_chance(1, HALF), chances)
        self.assertEqual(Chances(HALF).with_chance(0, new).ratios, (new,))

    def test_with_chance_checks_the_copy_first(self):
        chances = Chances(*THREE)
        for value in NO_COPY:
            self.assert_bad_number("copy", value, chances.with_chance, value, HALF)
            self.assert_bad_number("copy", value, chances.with_chance, value, "no chance")
        for value in NO_CHANCES:
            self.assert_bad_number("chance", value, chances.with_chance, 2, value)

    def test_all_stay_as_they_were(self):
        left, right = Chances(*THREE), Chances(HALF, Ratio(4, 5))
        before = [left.alone((0, 2)), left.up(Family.each(3)), right.alone((1,))]
        results = [left + right, right + left, left.with_chance(0, HALF)]
        self.assertEqual([len(result) for result in results], [5, 5, 3])
        for wrong in [lambda: left.with_chance(0, Ratio(1)), lambda: left + left + left, lambda: left.up(Family.each(2))]:
            with self.assertRaises(ValueError):
                wrong()
        left.decides(Family.each(3), 0)
        self.assertEqual([left.ratios, right.ratios], [THREE, (HALF, Ratio(4, 5))])
        self.assertEqual([left.alone((0, 2)), left.up(Family.each(3)), right.alone((1,))], before)


class AloneTest(NumberTest):
    def test_against_the_product_of_its_chances(self):
        for _, copies, fractions, chances in drawn(23, 2):
            for lot in plain.lots(copies):
                self.assertEqual(chances.alone(sorted(lot)), plain.ratio_of(plain.alone(fractions, lot)))

    def test_a_few_by_hand(self):
        chances = Chances(Ratio(3, 4), Ratio(2, 3))
        found = [str(chances.alone(lot)) for lot in [(), (0,), (1,), (0, 1)]]
        self.assertEqual(found, ["1/12", "1/4", "1/6", "1/2"])

    def test_over_all_lots_it_is_together_one(self):
        for _, copies, _, chances in drawn(24, 2):
            total = sum([chances.alone(sorted(lot)) for lot in plain.lots(copies)])
            self.assertEqual(total, Ratio(1))

    def test_any_order_and_copies_that_stand_several_times(self):
        chances = Chances(*THREE)
        for lot in [[2, 0], (2, 0, 2), [0, 2, 2, 0]]:
            self.assertEqual(chances.alone(lot), chances.alone((0, 2)))
        lot = [2, 0, 2]
        chances.alone(lot)
        self.assertEqual(lot, [2, 0, 2])

    def test_wrong_copies(self):
        for value in NO_COPY:
            self.assert_bad_number("copy", value, Chances(*THREE).alone, [1, value, 9])


class UpTest(NumberTest):
    def test_against_the_sum_over_all_lots(self):
        for copies in range(1, 4):
            draw = random.Random(copies)
            for family in plain.families(copies):
                fractions = plain.draw_chances(draw, copies)
                found = plain.chances_of(fractions).up(plain.family_of(copies, family))
                self.assertEqual(found, plain.ratio_of(plain.up(fractions, family)))
        for draw, copies, fractions, chances in drawn(25):
            family = plain.draw_family(draw, copies)
            found = chances.up(plain.family_of(copies, family))
            self.assertEqual(found, plain.ratio_of(plain.up(fractions, family)))

    def test_a_few_by_hand(self):
        chances = Chances(Ratio(3, 4), Ratio(2, 3))
        families = [Family.whole(2), Family.each(2), Family(2, (0,)), Family(2, (1,))]
        self.assertEqual([str(chances.up(family)) for family in families], ["1/2", "11/12", "3/4", "2/3"])

    def test_unlike(self):
        for left in range(1, 9):
            for right in range(1, 9):
                if left != right:
                    with self.assertRaises(Unlike):
                        Chances(*[HALF] * left).up(Family.each(right))


class DecidesTest(NumberTest):
    def expected(self, fractions, family, copy):
        """The chance of the lots of the other copies that are in the family just with this one."""
        total = Fraction(0)
        for lot in plain.lots(len(fractions)):
            if copy not in lot and lot not in family and lot | {copy} in family:
                total += plain.alone(fractions, lot) + plain.alone(fractions, lot | {copy})
        return total

    def test_against_the_sum_over_all_lots(self):
        for copies in range(1, 4):
            draw = random.Random(copies)
            for family in plain.families(copies):
                fractions = plain.draw_chances(draw, copies)
                for copy in range(copies):
                    found = plain.chances_of(fractions).decides(plain.family_of(copies, family), copy)
                    self.assertEqual(found, plain.ratio_of(self.expected(fractions, family, copy)))
        for draw, copies, fractions, chances in drawn(26, 4):
            family = plain.draw_family(draw, copies)
            for copy in range(copies):
                found = chances.decides(plain.family_of(copies, family), copy)
                self.assertEqual(found, plain.ratio_of(self.expected(fractions, family, copy)))

    def test_a_few_by_hand(self):
        chances = Chances(Ratio(3, 4), Ratio(2, 3))
        found = [str(chances.decides(Family.whole(2), copy)) for copy in range(2)]
        self.assertEqual(found, ["2/3", "3/4"])
        found = [str(chances.decides(Family.each(2), copy)) for copy in range(2)]
        self.assertEqual(found, ["1/3", "1/4"])
        found = [str(chances.decides(Family(2, (0,)), copy)) for copy in range(2)]
        self.assertEqual(found, ["1", "0"])
        self.assertEqual(Chances(HALF).decides(Family.each(1), 0), Ratio(1))

    def test_unlike_comes_before_the_copy(self):
        chances = Chances(*THREE)
        for copy in [0, 3, -1, "a"]:
            for copies in [1, 2, 4, 8]:
                with self.assertRaises(Unlike):
                    chances.decides(Family.each(copies), copy)
        for value in NO_COPY:
            self.assert_bad_number("copy", value, chances.decides, Family.each(3), value)

    def test_a_change_of_a_chance_changes_up_by_as_often_decides(self):
        for draw, copies, _, chances in drawn(27, 4):
            family = plain.family_of(copies, plain.draw_family(draw, copies))
            for copy in range(copies):
                new = plain.ratio_of(plain.draw_chance(draw))
                change = new - chances[copy]
                changed = chances.with_chance(copy, new)
                self.assertEqual(changed.up(family) - chances.up(family), change * chances.decides(family, copy))
                self.assertEqual(changed.decides(family, copy), chances.decides(family, copy))


class KindsTest(unittest.TestCase):
    def test_results_are_ratios(self):
        chances = Chances(*THREE)
        results = [chances.alone(()), chances.up(Family.each(3)), chances.decides(Family.each(3), 0), chances[0]]
        self.assertEqual({type(result) for result in results}, {Ratio})

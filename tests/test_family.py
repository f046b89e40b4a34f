"""Families: promises [6] to [9]."""

import inspect
import operator
import random
import unittest

from copyvotes.errors import BadLot, Unlike
from copyvotes.family import Family
from tests import plain
from tests.helpers import NO_COPIES, NO_COPY, NumberTest

SIGNS = [operator.le, operator.or_, operator.and_, Family.meets]


class EqualToAll:
    def __eq__(self, other):
        return True


def small_families():
    """All families of up to 3 copies: the number of copies, the plain family and the program's one."""
    for copies in range(1, 4):
        for family in plain.families(copies):
            yield copies, family, plain.family_of(copies, family)


def drawn_families(seed, many=12):
    """Drawn families of 4 to 8 copies, in the same form."""
    draw = random.Random(seed)
    for copies in range(4, 9):
        for _ in range(many):
            family = plain.draw_family(draw, copies)
            yield copies, family, plain.family_of(copies, family)


def some_families(seed):
    yield from small_families()
    yield from drawn_families(seed)


def some_pairs(seed):
    """Pairs of families of the same number of copies: all of up to 3 copies, drawn ones of more."""
    for copies in range(1, 4):
        known = plain.families(copies)
        for left in known:
            for right in known:
                yield copies, left, right
    draw = random.Random(seed)
    for copies in range(4, 9):
        for left, right in plain.drawn_pairs(draw, copies, 12):
            yield copies, left, right


class MakingTest(NumberTest):
    def test_the_minimal_lots_ascending(self):
        self.assertEqual(Family(3, (0, 1), (0, 2), (1, 2), (0, 1, 2)).lots, ((0, 1), (0, 2), (1, 2)))
        self.assertEqual(Family(3, (1, 2), (0, 1, 2), (0,)).lots, ((0,), (1, 2)))
        self.assertEqual(Family(4, (3,), (0, 1), (1, 2), (0,)).lots, ((0,), (1, 2), (3,)))
        self.assertEqual(Family(1, (0,)).lots, ((0,),))
        self.assertEqual(Family(8, (7,), (6, 5)).lots, ((5, 6), (7,)))

    def test_attributes(self):
        family = Family(3, [2, 1, 2], [0])
        self.assertEqual([family.copies, family.lots], [3, ((0,), (1, 2))])
        self.assertIs(type(family.lots), tuple)
        self.assertEqual({type(lot) for lot in family.lots}, {tuple})

    def test_all_and_only_the_lots_that_hold_one_of_the_passed_ones(self):
        draw = random.Random(2)
        for copies in range(1, 9):
            for _ in range(12):
                some = draw.choices(plain.lots(copies)[1:], k=draw.randint(1, 5))
                family = Family(copies, *[draw.sample(sorted(lot), len(lot)) for lot in some])
                expected = plain.above(copies, some)
                self.assertEqual(plain.lots_of(family), expected)
                self.assertEqual(family.lots, plain.minimal(expected))

    def test_the_number_of_copies_comes_first(self):
        for copies in NO_COPIES:
            with self.subTest(repr(copies)):
                self.assert_bad_number("copies", copies, Family, copies)
                self.assert_bad_number("copies", copies, Family, copies, ["a"], [])

    def test_no_lots(self):
        for copies in [1, 3, 8]:
            self.assert_bad_number("lots", 0, Family, copies)

    def test_a_wrong_copy(self):
        for value in NO_COPY:
            with self.subTest(repr(value)):
                self.assert_bad_number("copy", value, Family, 3, [value])
                self.assert_bad_number("copy", value, Family, 3, (0, 1), (2, value, 9), ())

    def test_an_empty_lot_and_its_place(self):
        for place in range(3):
            for empty in [(), []]:
                lots = [(0,), (1,), (0, 2)]
                lots[place] = empty
                with self.assertRaises(BadLot) as caught:
                    Family(3, *lots, (), (7,))
                self.assertEqual(caught.exception.place, place)

    def test_lot_by_lot(self):
        with self.assertRaises(BadLot) as caught:
            Family(3, (0,), (), (5,))
        self.assertEqual(caught.exception.place, 1)
        self.assert_bad_number("copy", 5, Family, 3, (0,), (1, 5), ())

    def test_whole_and_each(self):
        for copies in range(1, 9):
            whole, each = Family.whole(copies), Family.each(copies)
            self.assertEqual([whole.copies, whole.lots], [copies, (tuple(range(copies)),)])
            self.assertEqual([each.copies, each.lots], [copies, tuple((copy,) for copy in range(copies))])
            self.assertEqual(plain.lots_of(whole), {frozenset(range(copies))})
            self.assertEqual(plain.lots_of(each), set(plain.lots(copies)[1:]))
        for copies in NO_COPIES:
            self.assert_bad_number("copies", copies, Family.whole, copies)
            self.assert_bad_number("copies", copies, Family.each, copies)

    def test_passed_lists_stay_as_they_were_and_may_be_changed_later(self):
        lot = [2, 0, 2]
        family = Family(3, lot)
        self.assertEqual(lot, [2, 0, 2])
        lot[1] = 1
        lot.append(1)
        self.assertEqual(family, Family(3, (0, 2)))
        self.assertEqual([(0, 2) in family, (1, 2) in family], [True, False])


class EqualityTest(unittest.TestCase):
    def test_the_same_family_from_other_lots(self):
        draw = random.Random(3)
        for copies, family, found in some_families(4):
            for lots in (list(found.lots), list(found.every()), [list(lot) for lot in found.lots] * 2):
                draw.shuffle(lots)
                same = Family(copies, *lots)
                self.assertIs(same == found, True)
                self.assertIs(same != found, False)
                self.assertEqual(same.lots, found.lots)

    def test_other_families(self):
        for copies in range(1, 4):
            known = plain.families(copies)
            for left in known:
                for right in known:
                    equal = plain.family_of(copies, left) == plain.family_of(copies, right)
                    self.assertIs(equal, left == right)

    def test_the_same_lots_for_another_number_of_copies(self):
        self.assertIs(Family(2, (0, 1)) == Family(3, (0, 1)), False)
        self.assertIs(Family(2, (0, 1)) != Family(3, (0, 1)), True)

    def test_values_of_another_class(self):
        family = Family(2, (0, 1))
        for value in [None, 2, "family", ((0, 1),), [(0, 1)], (2, ((0, 1),)), EqualToAll()]:
            with self.subTest(repr(value)):
                self.assertIs(family == value, False)
                self.assertIs(family != value, True)


class SignsTest(NumberTest):
    def test_in(self):
        for copies, family, found in some_families(5):
            for lot in plain.lots(copies):
                self.assertIs(tuple(sorted(lot)) in found, lot in family)

    def test_in_takes_lists_and_copies_in_any_order_and_twice(self):
        family = Family(4, (0, 1), (1, 2, 3))
        for lot in [[0, 1], [1, 0], (1, 0, 1), [3, 2, 1], (3, 1, 2, 3, 1), [3, 0, 2, 1]]:
            self.assertIs(lot in family, True)
            self.assertIs(lot not in family, False)
        for lot in [[], (), [0], [0, 0], (3, 0), [3, 2, 0, 0]]:
            self.assertIs(lot in family, False)

    def test_in_is_false_for_what_lot_of_refuses(self):
        family = Family.each(3)
        for value in NO_COPY:
            with self.subTest(repr(value)):
                self.assertIs([value] in family, False)
                self.assertIs((0, value, 1) in family, False)

    def test_le_or_and(self):
        for copies, left, right in some_pairs(6):
            mine, theirs = plain.family_of(copies, left), plain.family_of(copies, right)
            self.assertIs(mine <= theirs, left <= right)
            self.assertEqual(mine | theirs, plain.family_of(copies, left | right))
            self.assertEqual(mine & theirs, plain.family_of(copies, left & right))
            self.assertEqual(plain.lots_of(mine | theirs), left | right)
            self.assertEqual(plain.lots_of(mine & theirs), left & right)

    def test_unlike(self):
        for sign in SIGNS:
            for left in range(1, 9):
                for right in range(1, 9):
                    if left != right:
                        with self.assertRaises(Unlike):
                            sign(Family.each(left), Family.each(right))
                        with self.assertRaises(Unlike):
                            sign(Family.whole(left), Family.each(right))

    def test_len_and_iteration(self):
        for copies, family, found in some_families(7):
            self.assertEqual(len(found), len(plain.minimal(family)))
            self.assertEqual(list(found), list(plain.minimal(family)))
        twice = Family(3, (0,), (1, 2))
        self.assertEqual([list(twice), list(twice)], [[(0,), (1, 2)]] * 2)


class LotsTest(NumberTest):
    def test_every_and_size(self):
        for copies, family, found in some_families(8):
            expected = [tuple(sorted(lot)) for lot in plain.lots(copies) if lot in family]
            self.assertEqual(list(found.every()), expected)
            self.assertEqual(found.size(), len(expected))

    def test_every_is_a_generator(self):
        found = Family(2, (1,)).every()
        self.assertTrue(inspect.isgenerator(found))
        self.assertEqual([next(found), next(found), next(found, None)], [(1,), (0, 1), None])

    def test_wider(self):
        for copies, family, found in some_families(9):
            if copies < 8:
                wider = found.wider()
                self.assertEqual([wider.copies, wider.lots], [copies + 1, found.lots])
                more = {lot | {copies} for lot in family}
                self.assertEqual(plain.lots_of(wider), family | more)

    def test_wider_than_eight_copies(self):
        for family in [Family.whole(8), Family.each(8)]:
            self.assert_bad_number("copies", 9, family.wider)
        self.assertEqual(Family.whole(7).wider().copies, 8)


class MeetingTest(NumberTest):
    def test_meets(self):
        for copies, left, right in some_pairs(10):
            found = plain.family_of(copies, left).meets(plain.family_of(copies, right))
            self.assertIs(found, plain.meet(left, right))

    def test_is_strict_and_dual(self):
        for copies, family, found in some_families(11):
            self.assertIs(found.is_strict(), plain.meet(family, family))
            dual = found.dual()
            self.assertEqual(plain.lots_of(dual), plain.dual(copies, family))
            self.assertEqual([dual.copies, dual.lots], [copies, plain.minimal(plain.dual(copies, family))])

    def test_a_lot_is_in_the_dual_if_the_lot_of_the_others_is_not_in_the_family(self):
        for copies, family, found in some_families(12):
            dual = found.dual()
            for lot in plain.lots(copies):
                self.assertIs(tuple(lot) in dual, tuple(plain.others(copies, lot)) not in found)

    def test_the_dual_meets_the_family_and_is_the_greatest_that_does(self):
        for copies, left, right in some_pairs(13):
            mine, theirs = plain.family_of(copies, left), plain.family_of(copies, right)
            self.assertIs(mine.dual().meets(mine), True)
            if theirs.meets(mine):
                self.assertIs(theirs <= mine.dual(), True)

    def test_the_dual_of_the_dual_and_strictness(self):
        for copies, family, found in some_families(14):
            self.assertEqual(found.dual().dual(), found)
            self.assertIs(found.is_strict(), found <= found.dual())

    def test_the_order_and_the_union_of_duals(self):
        for copies, left, right in some_pairs(15):
            mine, theirs = plain.family_of(copies, left), plain.family_of(copies, right)
            if mine <= theirs:
                self.assertIs(theirs.dual() <= mine.dual(), True)
            self.assertEqual((mine | theirs).dual(), mine.dual() & theirs.dual())


class UnchangedTest(unittest.TestCase):
    def test_no_operation_changes_its_families(self):
        left, right = Family(4, (0, 1), (2,)), Family(4, (1, 3), (0, 2))

        def shown():
            return [(family.copies, family.lots, list(family.every())) for family in (left, right)]

        before = shown()
        for sign in SIGNS + [operator.eq, operator.ne]:
            sign(left, right)
            sign(left, left)
        for family in (left, right):
            for method in [Family.size, Family.wider, Family.is_strict, Family.dual, len, list]:
                method(family)
            for lot in [(0, 1), [3, "a"]]:
                self.assertIs(lot in family, lot == (0, 1) and family is left)
        with self.assertRaises(Unlike):
            left.meets(Family.whole(3))
        self.assertEqual(shown(), before)

    def test_unions_and_duals_are_families_of_their_own(self):
        for found in [Family.each(2) | Family.each(2), Family.each(2) & Family.each(2), Family.each(2).dual()]:
            self.assertIs(type(found), Family)


class ExamplesTest(unittest.TestCase):
    def test_a_majority_of_three(self):
        family = Family(3, (0, 1), (0, 2), (1, 2), (0, 1, 2))
        found = [family.lots, family.size(), family.is_strict(), family.dual() == family]
        self.assertEqual(found, [((0, 1), (0, 2), (1, 2)), 4, True, True])

    def test_duals(self):
        family = Family(3, (0,), (1, 2))
        found = [family.dual().lots, Family.whole(3).dual().lots]
        self.assertEqual(found, [((0, 1), (0, 2)), ((0,), (1,), (2,))])

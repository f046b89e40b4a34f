"""Tables of copies that fail together: promises [25] and [26], and as_table of [30]."""

import operator
import random
import unittest

from copyvotes.chances import Chances
from copyvotes.errors import BadLot, NoMeeting, Unlike
from copyvotes.family import Family
from copyvotes.ratio import Ratio
from copyvotes.table import Table, as_table, table_gain, table_worth, up_moments
from copyvotes.worth import gain, worth
from tests import plain
from tests.helpers import NO_COPIES, NO_COPY, NO_COUNTS, NO_SHARES, EqualToAll, NumberTest

HALF = Ratio(1, 2)
COUNTS = {(0,): 6, (1,): 2, (2,): 2, (0, 1, 2): 4}
TABLE = Table(3, COUNTS)
NO_LOTS = [
    0, None, True, "", "01", 1.5, frozenset([0]), (1, 0), (0, 2, 1), (0, 0), (0, 1, 1), (3,), (0, 3), (-1,), (True,),
    (0, True), ("0",), (None,), (0.5,), (0, (1,)), ((),),
]


def drawn(seed, many=6):
    """Drawn counts and tables of 1 to 8 copies."""
    draw = random.Random(seed)
    for copies in range(1, 9):
        for _ in range(many):
            counts = plain.draw_counts(draw, copies)
            yield draw, copies, counts, plain.table_of(copies, counts)


class MakingTest(NumberTest):
    def test_attributes(self):
        self.assertEqual([TABLE.copies, TABLE.moments], [3, 14])
        for _, copies, counts, table in drawn(121):
            self.assertEqual([table.copies, table.moments], [copies, sum(counts.values())])

    def test_the_empty_lot_counts_too(self):
        table = Table(2, {(): 3})
        self.assertEqual([table.moments, table.moments_of(()), table.moments_of((0,))], [3, 3, 0])

    def test_great_counts(self):
        table = Table(1, {(0,): 10 ** 40, (): 1})
        self.assertEqual([table.moments, table.moments_of([0])], [10 ** 40 + 1, 10 ** 40])

    def test_the_number_of_copies_comes_first(self):
        for copies in NO_COPIES:
            with self.subTest(repr(copies)):
                self.assert_bad_number("copies", copies, Table, copies, {})
                self.assert_bad_number("copies", copies, Table, copies, {"a": -1})

    def assert_bad_lot(self, place, copies, counts):
        with self.assertRaises(BadLot) as caught:
            Table(copies, counts)
        self.assertEqual(caught.exception.place, place)

    def test_a_key_that_is_no_lot(self):
        for key in NO_LOTS:
            with self.subTest(repr(key)):
                self.assert_bad_lot(0, 3, {key: 1})
                self.assert_bad_lot(0, 3, {key: -1, (0,): -1})
                self.assert_bad_lot(2, 3, {(2,): 0, (): 5, key: None, (1, 0): 1})
        self.assert_bad_lot(1, 1, {(0,): 1, (1,): 1})
        self.assert_bad_lot(0, 8, {(8,): 1})

    def test_a_wrong_count(self):
        for value in NO_COUNTS:
            with self.subTest(repr(value)):
                self.assert_bad_number("count", value, Table, 3, {(): value})
                self.assert_bad_number("count", value, Table, 3, {(0, 2): 4, (1,): value, (2, 1): 3, (2,): -9})

    def test_key_by_key(self):
        self.assert_bad_lot(1, 3, {(0,): 1, (1, 0): -1, (2,): -2})
        self.assert_bad_number("count", -1, Table, 3, {(0,): -1, (1, 0): 1})
        self.assert_bad_number("count", False, Table, 3, {(0,): False, "a": False})

    def test_no_moments(self):
        for copies in [1, 3, 8]:
            self.assert_bad_number("moments", 0, Table, copies, {})
            self.assert_bad_number("moments", 0, Table, copies, {(): 0, (0,): 0})
            self.assertEqual(Table(copies, {(): 0, (0,): 1}).moments, 1)

    def test_the_dictionary_stays_as_it_was_and_may_be_changed_later(self):
        counts = {(0, 1): 2, (): 0, (2,): 1}
        table = Table(3, counts)
        self.assertEqual(list(counts.items()), [((0, 1), 2), ((), 0), ((2,), 1)])
        counts[(2,)] = 7
        counts.clear()
        self.assertEqual([table.moments, table.moments_of((2,))], [3, 1])
        self.assertEqual(table, Table(3, {(0, 1): 2, (2,): 1}))


class MomentsOfTest(NumberTest):
    def test_each_lot(self):
        for _, copies, counts, table in drawn(122):
            for lot in plain.lots(copies):
                self.assertEqual(table.moments_of(tuple(sorted(lot))), counts[lot])

    def test_any_order_and_copies_that_stand_several_times(self):
        lot = [2, 0, 2, 1]
        self.assertEqual([TABLE.moments_of(lot), TABLE.moments_of([1, 1]), TABLE.moments_of((1, 0))], [4, 2, 0])
        self.assertEqual(lot, [2, 0, 2, 1])

    def test_the_errors_of_lot_of(self):
        for value in NO_COPY:
            with self.subTest(repr(value)):
                self.assert_bad_number("copy", value, TABLE.moments_of, [1, value, 9])


class EqualityTest(unittest.TestCase):
    def test_zeros_left_out_or_told_in_any_order(self):
        same = [Table(2, {(0,): 1, (1,): 2}), Table(2, {(1,): 2, (): 0, (0,): 1, (0, 1): 0})]
        for left in same:
            for right in same:
                self.assertIs(left == right, True)
                self.assertIs(left != right, False)

    def test_other_copies_or_counts(self):
        table = Table(2, {(0,): 1})
        for other in [Table(2, {(0,): 2}), Table(2, {(1,): 1}), Table(2, {(0,): 1, (): 1}), Table(3, {(0,): 1})]:
            self.assertIs(table == other, False)
            self.assertIs(table != other, True)

    def test_values_of_another_class(self):
        for value in [None, 14, "table", COUNTS, (3, COUNTS), Family(3, (0,)), EqualToAll()]:
            with self.subTest(repr(value)):
                self.assertIs(TABLE == value, False)
                self.assertIs(TABLE != value, True)


class SignsTest(NumberTest):
    def test_sums(self):
        for draw, copies, counts, table in drawn(123):
            more = plain.draw_counts(draw, copies)
            both = table + plain.table_of(copies, more)
            self.assertIs(type(both), Table)
            self.assertEqual(both, plain.table_of(copies, {lot: counts[lot] + more[lot] for lot in counts}))
            self.assertEqual(both.moments, sum(counts.values()) + sum(more.values()))
            self.assertEqual(table, plain.table_of(copies, counts))

    def test_unlike(self):
        for left in range(1, 9):
            for right in range(1, 9):
                if left != right:
                    with self.assertRaises(Unlike):
                        operator.add(Table(left, {(): 1}), Table(right, {(): 1}))

    def test_products_on_both_sides(self):
        for draw, copies, counts, table in drawn(124, 3):
            for times in [1, 2, draw.randint(3, 10 ** 6), 10 ** 30]:
                expected = plain.table_of(copies, {lot: counts[lot] * times for lot in counts})
                self.assertEqual(table * times, expected)
                self.assertEqual(times * table, expected)
                self.assertEqual(expected.moments, table.moments * times)
            self.assertEqual(table, plain.table_of(copies, counts))

    def test_a_wrong_factor(self):
        for value in [0, -1, -10 ** 30, True, False, None, "2", 1.0, 2.5, HALF, Ratio(2), (2,), [2]]:
            with self.subTest(repr(value)):
                self.assert_bad_number("times", value, operator.mul, TABLE, value)
                self.assert_bad_number("times", value, operator.mul, value, TABLE)


class AsTableTest(unittest.TestCase):
    def test_each_lot_and_the_moments(self):
        draw = random.Random(125)
        for copies in range(1, 9):
            for fractions in plain.chances_to_try(draw, copies):
                chances = plain.chances_of(fractions)
                table = as_table(chances)
                unders = 1
                for fraction in fractions:
                    unders *= fraction.denominator
                self.assertIs(type(table), Table)
                self.assertEqual([table.copies, table.moments], [copies, unders])
                for lot in plain.lots(copies):
                    found = table.moments_of(sorted(lot))
                    self.assertIs(type(found), int)
                    self.assertEqual(found, plain.alone(fractions, lot) * unders)

    def test_a_few_by_hand(self):
        table = as_table(Chances(Ratio(3, 4), Ratio(1, 2), Ratio(4, 6)))
        self.assertEqual(table, Table(3, {
            (): 1, (0,): 3, (1,): 1, (0, 1): 3, (2,): 2, (0, 2): 6, (1, 2): 2, (0, 1, 2): 6,
        }))
        self.assertEqual(table.moments, 24)

    def test_moments_worth_and_gain_are_those_of_the_chances_times_all_moments(self):
        draw = random.Random(126)
        for copies in range(1, 9):
            chances = plain.chances_of(plain.draw_chances(draw, copies))
            table = as_table(chances)
            writes = plain.family_of(copies, plain.draw_family(draw, copies))
            share = plain.ratio_of(plain.draw_share(draw))
            self.assertEqual(chances.up(writes) * table.moments, Ratio(up_moments(table, writes)))
            told = worth(chances, share, writes.dual(), writes)
            self.assertEqual(told * table.moments, table_worth(table, share, writes.dual(), writes))
            lot = draw.choice(list(writes.every()))
            self.assertEqual(gain(chances, share, lot) * table.moments, table_gain(table, share, lot))


class UpMomentsTest(unittest.TestCase):
    def test_all_families_of_up_to_three_copies(self):
        draw = random.Random(127)
        for copies in range(1, 4):
            counts = plain.draw_counts(draw, copies)
            for family in plain.families(copies):
                found = up_moments(plain.table_of(copies, counts), plain.family_of(copies, family))
                self.assertEqual(found, plain.up_moments(counts, family))

    def test_drawn_families(self):
        for draw, copies, counts, table in drawn(128):
            family = plain.draw_family(draw, copies)
            found = up_moments(table, plain.family_of(copies, family))
            self.assertIs(type(found), int)
            self.assertEqual(found, plain.up_moments(counts, family))

    def test_unlike(self):
        for copies in [1, 2, 4, 8]:
            with self.assertRaises(Unlike):
                up_moments(TABLE, Family.each(copies))


class WorthTest(NumberTest):
    def test_drawn_families_that_meet(self):
        for draw, copies, counts, table in drawn(129):
            writes = plain.draw_family(draw, copies)
            reads = plain.dual(copies, writes | plain.draw_family(draw, copies))
            share = plain.draw_share(draw)
            asked = (plain.ratio_of(share), plain.family_of(copies, reads), plain.family_of(copies, writes))
            found = table_worth(table, *asked)
            self.assertIs(type(found), Ratio)
            self.assertEqual(found, plain.ratio_of(plain.table_worth(counts, share, reads, writes)))

    def test_shares_of_zero_and_one(self):
        reads, writes = Family(3, (0, 1), (0, 2)), Family(3, (0,), (1, 2))
        self.assertEqual(table_worth(TABLE, Ratio(0), reads, writes), Ratio(10))
        self.assertEqual(table_worth(TABLE, Ratio(1), reads, writes), Ratio(4))
        self.assertEqual(table_worth(TABLE, Ratio(1, 1000), reads, writes), Ratio(9994, 1000))

    def test_a_wrong_share_comes_first(self):
        for share in NO_SHARES:
            with self.subTest(str(share)):
                self.assert_bad_number("share", share, table_worth, TABLE, share, Family.each(3), Family.whole(3))
                self.assert_bad_number("share", share, table_worth, TABLE, share, Family.each(2), Family.each(4))
                self.assert_bad_number("share", share, table_worth, TABLE, share, Family.each(3), Family.each(3))

    def test_unlike_comes_before_families_that_do_not_meet(self):
        for copies in [1, 2, 4, 8]:
            for other in [3, copies]:
                for reads, writes in [(copies, other), (other, copies)]:
                    with self.assertRaises(Unlike):
                        table_worth(TABLE, HALF, Family.each(reads), Family.each(writes))

    def test_no_meeting_tells_the_first_two_lots(self):
        rows = [
            (Family.each(3), Family.each(3), (0,), (1,)),
            (Family(3, (0, 1), (0, 2)), Family(3, (0, 1), (2,)), (0, 1), (2,)),
            (Family(3, (2,), (0, 1)), Family(3, (0, 1), (0, 2), (1, 2)), (2,), (0, 1)),
        ]
        for reads, writes, read, write in rows:
            with self.assertRaises(NoMeeting) as caught:
                table_worth(TABLE, HALF, reads, writes)
            self.assertEqual((caught.exception.read, caught.exception.write), (read, write))


class GainTest(NumberTest):
    def test_against_the_words_of_the_document(self):
        for draw, copies, counts, table in drawn(130, 2):
            share = plain.draw_share(draw)
            for lot in plain.lots(copies):
                found = table_gain(table, plain.ratio_of(share), sorted(lot))
                self.assertIs(type(found), Ratio)
                self.assertEqual(found, plain.ratio_of(plain.table_gain(copies, counts, share, lot)))

    def test_a_few_by_hand(self):
        found = [str(table_gain(TABLE, Ratio(1, 3), lot)) for lot in [(), (0,), [1, 0], (2, 1), (2, 0, 1)]]
        self.assertEqual(found, ["-4/3", "4", "-2/3", "-2", "8/3"])

    def test_a_wrong_share_comes_before_a_wrong_copy(self):
        for share in NO_SHARES:
            with self.subTest(str(share)):
                self.assert_bad_number("share", share, table_gain, TABLE, share, (0,))
                self.assert_bad_number("share", share, table_gain, TABLE, share, ("a", 9))
        for value in NO_COPY:
            self.assert_bad_number("copy", value, table_gain, TABLE, HALF, [2, value, 9])

    def test_nothing_is_changed(self):
        reads, writes, lot = Family.each(3), Family.whole(3), [2, 0]
        table_worth(TABLE, HALF, reads, writes)
        up_moments(TABLE, writes)
        table_gain(TABLE, HALF, lot)
        self.assertEqual([reads, writes, lot], [Family.each(3), Family.whole(3), [2, 0]])
        self.assertEqual(TABLE, Table(3, COUNTS))

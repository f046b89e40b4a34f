"""Lots: promise [5]."""

import random

from copyvotes.lots import all_lots, lot_of, others
from tests import plain
from tests.helpers import NO_COPIES, NO_COPY, NumberTest


class LotOfTest(NumberTest):
    def test_any_order_and_copies_that_stand_several_times(self):
        self.assertEqual(lot_of(4, [3, 0, 1]), (0, 1, 3))
        self.assertEqual(lot_of(4, [2, 2, 2]), (2,))
        self.assertEqual(lot_of(4, [1, 0, 1, 3, 0]), (0, 1, 3))
        self.assertEqual(lot_of(3, [0, 1, 2]), (0, 1, 2))
        self.assertEqual(lot_of(3, []), ())

    def test_drawn_lists(self):
        draw = random.Random(1)
        for _ in range(300):
            copies = draw.randint(1, 8)
            numbers = [draw.randrange(copies) for _ in range(draw.randint(0, 12))]
            self.assertEqual(lot_of(copies, numbers), tuple(sorted(set(numbers))))

    def test_a_tuple_and_a_list_alike(self):
        for numbers in [(), (1,), (2, 0, 2), (0, 1, 2)]:
            found = lot_of(3, numbers)
            self.assertEqual(found, lot_of(3, list(numbers)))
            self.assertIs(type(found), tuple)
            self.assertIs(type(lot_of(3, list(numbers))), tuple)

    def test_one_and_eight_copies(self):
        self.assertEqual([lot_of(1, []), lot_of(1, [0]), lot_of(1, [0, 0])], [(), (0,), (0,)])
        self.assertEqual(lot_of(8, [7, 3, 0, 7]), (0, 3, 7))
        self.assertEqual(lot_of(8, list(range(7, -1, -1))), tuple(range(8)))
        self.assert_bad_number("copy", 1, lot_of, 1, [0, 1])
        self.assert_bad_number("copy", 8, lot_of, 8, [7, 8])

    def test_wrong_numbers_of_copies_come_first(self):
        for copies in NO_COPIES:
            with self.subTest(repr(copies)):
                self.assert_bad_number("copies", copies, lot_of, copies, [0])
                self.assert_bad_number("copies", copies, lot_of, copies, ["a", -1])

    def test_the_first_wrong_copy_in_the_order_of_the_list(self):
        for value in NO_COPY:
            with self.subTest(repr(value)):
                self.assert_bad_number("copy", value, lot_of, 3, [value])
                self.assert_bad_number("copy", value, lot_of, 3, (2, 0, value, 9, "b"))
        self.assert_bad_number("copy", 9, lot_of, 3, [9, -1])
        self.assert_bad_number("copy", -1, lot_of, 3, [-1, 9])
        self.assert_bad_number("copy", 3, lot_of, 3, [0, 3, 3, 4])

    def test_the_very_value_is_kept(self):
        value = ["a list of its own"]
        with self.assertRaises(ValueError) as caught:
            lot_of(3, [0, value])
        self.assertIs(caught.exception.value, value)

    def test_the_list_stays_as_it_was_and_may_be_changed_later(self):
        numbers = [2, 0, 2]
        found = lot_of(3, numbers)
        self.assertEqual(numbers, [2, 0, 2])
        numbers[0] = 1
        numbers.append(1)
        self.assertEqual(found, (0, 2))


class OthersTest(NumberTest):
    def test_all_lots_of_all_numbers_of_copies(self):
        for copies in range(1, 9):
            for lot in plain.lots(copies):
                self.assertEqual(others(copies, sorted(lot)), tuple(sorted(plain.others(copies, lot))))

    def test_any_order_and_copies_that_stand_several_times(self):
        self.assertEqual(others(4, [2, 0, 2]), (1, 3))
        self.assertEqual(others(4, (3, 2, 1, 0)), ())
        self.assertIs(type(others(4, [2, 0])), tuple)

    def test_errors_as_those_of_lot_of(self):
        for copies in NO_COPIES:
            self.assert_bad_number("copies", copies, others, copies, ["a"])
        for value in NO_COPY:
            self.assert_bad_number("copy", value, others, 3, [0, value, 9])

    def test_the_list_stays_as_it_was(self):
        numbers = [2, 2, 0]
        others(3, numbers)
        self.assertEqual(numbers, [2, 2, 0])


class AllLotsTest(NumberTest):
    def test_the_order_that_the_document_tells(self):
        self.assertEqual(all_lots(3)[:6], [(), (0,), (1,), (0, 1), (2,), (0, 2)])
        self.assertEqual(all_lots(3)[6:], [(1, 2), (0, 1, 2)])
        self.assertEqual(all_lots(1), [(), (0,)])
        self.assertEqual(all_lots(2), [(), (0,), (1,), (0, 1)])

    def test_all_numbers_of_copies(self):
        for copies in range(1, 9):
            self.assertEqual(all_lots(copies), [tuple(sorted(lot)) for lot in plain.lots(copies)])

    def test_a_new_list_of_tuples(self):
        found = all_lots(2)
        self.assertIs(type(found), list)
        self.assertEqual({type(lot) for lot in found}, {tuple})
        found.clear()
        self.assertEqual(len(all_lots(2)), 4)

    def test_wrong_numbers_of_copies(self):
        for copies in NO_COPIES:
            self.assert_bad_number("copies", copies, all_lots, copies)

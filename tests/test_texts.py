"""Stores and families as texts: promises [33] and [34]."""

import random

from copyvotes.chances import Chances
from copyvotes.errors import BadLot, BadText
from copyvotes.family import Family
from copyvotes.ratio import Ratio
from copyvotes.texts import read_family, read_store, write_family, write_store
from tests import plain
from tests.helpers import NO_NUMBER_WORDS, NO_RATIO_WORDS, NumberTest

HALF = Ratio(1, 2)
THREE = Chances(Ratio(3, 4), HALF, Ratio(9, 10))
RIGHT_STORE = "copies 3/4 1/2\nshare 1/3\n"
RIGHT_FAMILY = "family 3\n0\n1 2\n"


class TextTest(NumberTest):
    def assert_bad_text(self, line, read, text):
        with self.subTest(repr(text)):
            with self.assertRaises(BadText) as caught:
                read(text)
            self.assertEqual(caught.exception.line, line)


class WriteStoreTest(TextTest):
    def test_two_lines(self):
        self.assertEqual(write_store(THREE, Ratio(2, 6)), "copies 3/4 1/2 9/10\nshare 1/3\n")
        self.assertEqual(write_store(Chances(HALF), Ratio(0)), "copies 1/2\nshare 0\n")
        self.assertEqual(write_store(Chances(*[HALF] * 8), Ratio(1)), "copies" + " 1/2" * 8 + "\nshare 1\n")

    def test_the_share_is_not_checked(self):
        rows = [(Ratio(-1, 3), "-1/3"), (Ratio(7, 2), "7/2"), (Ratio(1, 12345), "1/12345"), (Ratio(5), "5")]
        for share, told in rows:
            self.assertEqual(write_store(THREE, share), f"copies 3/4 1/2 9/10\nshare {told}\n")

    def test_both_ways(self):
        draw = random.Random(171)
        for copies in range(1, 9):
            for _ in range(5):
                chances = plain.chances_of(plain.draw_chances(draw, copies))
                share = plain.ratio_of(plain.draw_share(draw))
                found = read_store(write_store(chances, share))
                self.assertIs(type(found), tuple)
                self.assertEqual(found, (chances, share))
                self.assertEqual(write_store(*found), write_store(chances, share))


class ReadStoreTest(TextTest):
    def test_fractions_that_are_not_in_lowest_terms(self):
        found = read_store("copies 6/8 8000/9000 5/10\nshare 0/7\n")
        self.assertEqual(found, (Chances(Ratio(3, 4), Ratio(8, 9), HALF), Ratio(0)))
        self.assertEqual(read_store("copies 4995/5000\nshare 9/9\n"), (Chances(Ratio(999, 1000)), Ratio(1)))

    def test_a_wrong_first_line(self):
        for line in [
            "", "copies", "copies ", "copies  1/2", " copies 1/2", "copies 1/2 ", "copies 1/2  3/4", "Copies 1/2",
            "copy 1/2", "copiesx 1/2", "share 1/2", "1/2", "copies\t1/2", "copies 1/2 x 3/4", "copies 1/2 3/4 1/0",
        ]:
            self.assert_bad_text(1, read_store, line + "\nshare 1/3\n")
        for word in NO_RATIO_WORDS:
            self.assert_bad_text(1, read_store, f"copies {word}\nshare 1/3\n")
            self.assert_bad_text(1, read_store, f"copies 1/2 {word} 3/4\nshare x\n")

    def test_a_wrong_second_line(self):
        for line in [
            "", "share", "share ", "share  1/3", " share 1/3", "share 1/3 ", "share 1/3 1/3", "Share 1/3", "copies 1/3",
            "shares 1/3", "1/3",
        ]:
            self.assert_bad_text(2, read_store, f"copies 1/2\n{line}\n")
            self.assert_bad_text(2, read_store, f"copies 1/2\n{line}\nx\n")
        for word in NO_RATIO_WORDS:
            self.assert_bad_text(2, read_store, f"copies 1/2\nshare {word}\n")

    def test_a_third_line(self):
        for rest in ["\n", "x", "x\n", " ", "share 1/3\n", "share 1/3", "\n\n\n"]:
            self.assert_bad_text(3, read_store, RIGHT_STORE + rest)

    def test_a_missing_last_newline_or_line(self):
        self.assert_bad_text(1, read_store, "")
        self.assert_bad_text(1, read_store, "copies 3/4")
        self.assert_bad_text(1, read_store, "x")
        self.assert_bad_text(2, read_store, "copies 3/4\n")
        self.assert_bad_text(2, read_store, "copies 3/4\nshare 1/3")
        self.assert_bad_text(2, read_store, "copies 3/4\nshare")
        self.assert_bad_text(1, read_store, "share 1/3\n")
        self.assert_bad_text(1, read_store, "copies x\nshare 1/3")

    def test_the_form_comes_before_all_numbers(self):
        self.assert_bad_text(2, read_store, "copies 1/3\nshare\n")
        self.assert_bad_text(3, read_store, "copies 1/3\nshare 2\n\n")
        self.assert_bad_text(2, read_store, "copies" + " 1" * 9 + "\nshare 2")

    def test_the_errors_of_chances_come_before_that_of_the_share(self):
        self.assert_bad_number("copies", 9, read_store, "copies" + " 1/3" * 9 + "\nshare 2\n")
        for told, value in [("1/3", Ratio(1, 3)), ("1", Ratio(1)), ("0", Ratio(0)), ("999/1001", Ratio(999, 1001))]:
            self.assert_bad_number("chance", value, read_store, f"copies 1/2 {told} 2\nshare 2\n")
        for told, value in [("2", Ratio(2)), ("4/3", Ratio(4, 3)), ("1/1001", Ratio(1, 1001))]:
            self.assert_bad_number("share", value, read_store, f"copies 1/2\nshare {told}\n")


class WriteFamilyTest(TextTest):
    def test_the_lots_ascending(self):
        self.assertEqual(write_family(Family(3, (1, 2), (0,), (0, 1))), RIGHT_FAMILY)
        self.assertEqual(write_family(Family.whole(8)), "family 8\n0 1 2 3 4 5 6 7\n")
        self.assertEqual(write_family(Family.each(4)), "family 4\n0\n1\n2\n3\n")
        self.assertEqual(write_family(Family(1, [0])), "family 1\n0\n")

    def test_both_ways(self):
        draw = random.Random(172)
        families = [(copies, family) for copies in range(1, 4) for family in plain.families(copies)]
        families += [(copies, plain.draw_family(draw, copies)) for copies in range(4, 9) for _ in range(6)]
        for copies, plain_family in families:
            family = plain.family_of(copies, plain_family)
            text = write_family(family)
            lines = [f"family {copies}"] + [" ".join(map(str, lot)) for lot in plain.minimal(plain_family)]
            self.assertEqual(text, "".join(line + "\n" for line in lines))
            self.assertEqual(read_family(text), family)


class ReadFamilyTest(TextTest):
    def test_lots_in_any_order_copies_twice_and_lots_that_are_not_minimal(self):
        rows = [
            ("family 3\n1 2\n0\n", Family(3, (0,), (1, 2))), ("family 3\n2 1 2\n0 0\n0 1\n", Family(3, (0,), (1, 2))),
            ("family 3\n2 1 0\n", Family.whole(3)), ("family 1\n0\n0\n0\n", Family(1, (0,))),
            ("family 8\n7 0 7\n3\n", Family(8, (3,), (0, 7))),
        ]
        for text, family in rows:
            self.assertEqual(read_family(text), family)

    def test_a_wrong_first_line(self):
        for line in [
            "", "family", "family ", "family  3", " family 3", "family 3 ", "family 3 3", "Family 3", "3", "lots 3",
        ]:
            self.assert_bad_text(1, read_family, line + "\n0\n1 2\n")
        for word in NO_NUMBER_WORDS:
            self.assert_bad_text(1, read_family, f"family {word}\n0\n")

    def test_a_wrong_line_of_a_lot(self):
        for line in ["", " ", "0 ", " 0", "0  1", "0\t1", "0,1", "lot 0", "0 x", "0 1/2"]:
            self.assert_bad_text(2, read_family, f"family 3\n{line}\n")
            self.assert_bad_text(2, read_family, f"family 3\n{line}\nx\n1")
            self.assert_bad_text(3, read_family, f"family 3\n0\n{line}\n1 2\n")
        for word in NO_NUMBER_WORDS:
            self.assert_bad_text(4, read_family, f"family 3\n0\n1\n1 {word} 2\n")

    def test_a_missing_last_newline_or_line(self):
        self.assert_bad_text(1, read_family, "")
        self.assert_bad_text(1, read_family, "family 3")
        self.assert_bad_text(2, read_family, "family 3\n")
        self.assert_bad_text(2, read_family, "family 3\n0")
        self.assert_bad_text(2, read_family, "family 3\nx")
        self.assert_bad_text(3, read_family, "family 3\n0\n1 2")
        self.assert_bad_text(3, read_family, "family 3\n0\n\n")
        self.assert_bad_text(4, read_family, RIGHT_FAMILY + "\n")
        self.assert_bad_text(4, read_family, RIGHT_FAMILY + " ")
        self.assert_bad_text(1, read_family, "0\n1 2\n")

    def test_the_form_comes_before_the_errors_of_family(self):
        self.assert_bad_text(3, read_family, "family 9\n9\nx\n")
        self.assert_bad_text(3, read_family, "family 9\n9\n9")
        self.assert_bad_text(2, read_family, "family 0\n")

    def test_the_errors_of_family_in_their_order(self):
        for copies in [0, 9, 10, 9999]:
            self.assert_bad_number("copies", copies, read_family, f"family {copies}\n9999\n")
        self.assert_bad_number("copy", 3, read_family, "family 3\n0 1\n2 3 4\n5\n")
        self.assert_bad_number("copy", 9999, read_family, "family 8\n9999\n")

    def test_no_text_has_an_empty_lot(self):
        # Family would tell an empty lot by its place, but a line without a number is no line of a lot.
        with self.assertRaises(BadLot):
            Family(3, (0,), ())
        self.assert_bad_text(3, read_family, "family 3\n0\n\n1\n")

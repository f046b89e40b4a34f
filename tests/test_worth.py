"""What reads and writes are worth: promises [12] and [13]."""

import random
import unittest

from copyvotes.chances import Chances
from copyvotes.errors import NoMeeting, Unlike
from copyvotes.family import Family
from copyvotes.ratio import Ratio
from copyvotes.worth import gain, worth
from tests import plain
from tests.helpers import NO_COPY, NO_SHARES, NumberTest

HALF = Ratio(1, 2)
THREE = Chances(Ratio(3, 4), Ratio(1, 2), Ratio(9, 10))
SHARES = [Ratio(0), Ratio(1), HALF, Ratio(1, 1000), Ratio(999, 1000), Ratio(2, 3), Ratio(1500, 2000)]


def drawn(seed, many=6):
    """Drawn chances and shares for 1 to 8 copies, as Fractions."""
    draw = random.Random(seed)
    for copies in range(1, 9):
        for _ in range(many):
            yield draw, copies, plain.draw_chances(draw, copies), plain.draw_share(draw)


class WorthTest(NumberTest):
    def test_all_families_of_up_to_three_copies_that_meet(self):
        for copies in range(1, 4):
            draw = random.Random(copies)
            fractions = plain.draw_chances(draw, copies)
            chances = plain.chances_of(fractions)
            known = plain.families(copies)
            for reads in known:
                for writes in known:
                    if plain.meet(reads, writes):
                        share = plain.draw_share(draw)
                        mine, theirs = plain.family_of(copies, reads), plain.family_of(copies, writes)
                        found = worth(chances, plain.ratio_of(share), mine, theirs)
                        self.assertEqual(found, plain.ratio_of(plain.worth(fractions, share, reads, writes)))

    def test_drawn_families(self):
        for draw, copies, fractions, share in drawn(31):
            writes = plain.draw_family(draw, copies)
            reads = plain.dual(copies, writes)
            mine, theirs = plain.family_of(copies, reads), plain.family_of(copies, writes)
            found = worth(plain.chances_of(fractions), plain.ratio_of(share), mine, theirs)
            self.assertEqual(found, plain.ratio_of(plain.worth(fractions, share, reads, writes)))

    def test_shares_at_and_near_the_bounds(self):
        reads, writes = Family.each(3), Family.whole(3)
        for share in SHARES:
            expected = share * THREE.up(reads) + (1 - share) * THREE.up(writes)
            self.assertEqual(worth(THREE, share, reads, writes), expected)
        self.assertEqual(worth(THREE, Ratio(0), reads, writes), THREE.up(writes))
        self.assertEqual(worth(THREE, Ratio(1), reads, writes), THREE.up(reads))

    def test_a_wrong_share_comes_first(self):
        for share in NO_SHARES:
            with self.subTest(str(share)):
                self.assert_bad_number("share", share, worth, THREE, share, Family.each(3), Family.whole(3))
                self.assert_bad_number("share", share, worth, THREE, share, Family.each(2), Family.each(4))
                self.assert_bad_number("share", share, worth, THREE, share, Family.each(3), Family.each(3))

    def test_unlike_comes_before_families_that_do_not_meet(self):
        for copies in [1, 2, 4, 8]:
            for other in [3, copies]:
                for reads, writes in [(copies, other), (other, copies)]:
                    with self.assertRaises(Unlike):
                        worth(THREE, HALF, Family.each(reads), Family.each(writes))
                    with self.assertRaises(Unlike):
                        worth(THREE, HALF, Family.each(reads), Family.whole(writes))

    def assert_no_meeting(self, read, write, reads, writes):
        with self.assertRaises(NoMeeting) as caught:
            worth(THREE if reads.copies == 3 else Chances(*[HALF] * reads.copies), HALF, reads, writes)
        self.assertEqual((caught.exception.read, caught.exception.write), (read, write))

    def test_no_meeting_tells_the_first_two_lots(self):
        self.assert_no_meeting((0,), (1,), Family.each(3), Family.each(3))
        self.assert_no_meeting((1,), (0, 2), Family.each(3), Family(3, (0, 1), (0, 2)))
        self.assert_no_meeting((0, 1), (2,), Family(3, (1, 0), (0, 2)), Family(3, (2,), (0, 1)))
        self.assert_no_meeting((0, 2), (1,), Family(3, (0, 2), (1, 2)), Family(3, (1,), (0,)))
        self.assert_no_meeting((2,), (0, 1), Family(3, (2,), (0, 1)), Family(3, (0, 1), (0, 2), (1, 2)))
        self.assert_no_meeting((2,), (1, 3), Family(4, (0, 1), (2,)), Family(4, (1, 3), (0, 2)))

    def test_no_meeting_in_drawn_families(self):
        draw = random.Random(32)
        for copies in range(2, 9):
            for reads, writes in plain.drawn_pairs(draw, copies, 10):
                mine, theirs = plain.family_of(copies, reads), plain.family_of(copies, writes)
                pairs = [(read, write) for read in mine.lots for write in theirs.lots if not set(read) & set(write)]
                if pairs:
                    self.assert_no_meeting(*pairs[0], mine, theirs)

    def test_nothing_is_changed(self):
        reads, writes = Family.each(3), Family.whole(3)
        worth(THREE, HALF, reads, writes)
        self.assertEqual([reads, writes], [Family.each(3), Family.whole(3)])
        self.assertEqual(THREE, Chances(Ratio(3, 4), Ratio(1, 2), Ratio(9, 10)))


class GainTest(NumberTest):
    def test_against_the_sum_that_the_document_tells(self):
        for _, copies, fractions, share in drawn(33, 2):
            chances = plain.chances_of(fractions)
            for lot in plain.lots(copies):
                found = gain(chances, plain.ratio_of(share), sorted(lot))
                self.assertEqual(found, plain.ratio_of(plain.gain(fractions, share, lot)))

    def test_a_few_by_hand(self):
        chances = Chances(Ratio(3, 4), Ratio(2, 3))
        found = [str(gain(chances, Ratio(1, 4), lot)) for lot in [(), (0,), (1,), (0, 1)]]
        self.assertEqual(found, ["-1/16", "7/48", "1/16", "17/48"])

    def test_shares_of_zero_and_one(self):
        for lot, left in [((), (0, 1, 2)), ((0,), (1, 2)), ((0, 2), (1,))]:
            self.assertEqual(gain(THREE, Ratio(0), lot), THREE.alone(lot))
            self.assertEqual(gain(THREE, Ratio(1), lot), 0 - THREE.alone(left))

    def test_the_gain_of_the_others_at_one_minus_the_share(self):
        for _, copies, fractions, share in drawn(34, 2):
            chances, share = plain.chances_of(fractions), plain.ratio_of(share)
            for lot in plain.lots(copies):
                left = sorted(plain.others(copies, lot))
                self.assertEqual(gain(chances, 1 - share, left), 0 - gain(chances, share, sorted(lot)))

    def test_any_order_and_copies_that_stand_several_times(self):
        lot = [2, 0, 2]
        self.assertEqual(gain(THREE, Ratio(1, 3), lot), gain(THREE, Ratio(1, 3), (0, 2)))
        self.assertEqual(lot, [2, 0, 2])

    def test_a_wrong_share_comes_before_a_wrong_copy(self):
        for share in NO_SHARES:
            with self.subTest(str(share)):
                self.assert_bad_number("share", share, gain, THREE, share, (0,))
                self.assert_bad_number("share", share, gain, THREE, share, ("a", 9))
        for value in NO_COPY:
            self.assert_bad_number("copy", value, gain, THREE, HALF, [2, value, 9])


class BestReadsTest(unittest.TestCase):
    def test_the_dual_and_the_sum_of_gains(self):
        for draw, copies, fractions, share in drawn(35, 4):
            chances, share = plain.chances_of(fractions), plain.ratio_of(share)
            writes = plain.family_of(copies, plain.draw_family(draw, copies))
            total = share + sum([gain(chances, share, lot) for lot in writes.every()])
            self.assertEqual(worth(chances, share, writes.dual(), writes), total)

    def test_no_reads_that_meet_the_writes_are_better_than_the_dual(self):
        draw = random.Random(36)
        for copies in range(1, 4):
            known = [plain.family_of(copies, family) for family in plain.families(copies)]
            for writes in known:
                chances = plain.chances_of(plain.draw_chances(draw, copies))
                share = plain.ratio_of(plain.draw_share(draw))
                best = worth(chances, share, writes.dual(), writes)
                for reads in known:
                    if reads.meets(writes):
                        self.assertLessEqual(worth(chances, share, reads, writes), best)

    def test_results_are_ratios(self):
        results = [worth(THREE, Ratio(0), Family.each(3), Family.whole(3)), gain(THREE, Ratio(1), ())]
        self.assertEqual({type(result) for result in results}, {Ratio})

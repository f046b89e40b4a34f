"""Votes and the search for them: promises [21] and [22]."""

import random
import unittest
from functools import cache
from itertools import product

from copyvotes.errors import TooMany
from copyvotes.family import Family
from copyvotes.votes import Votes, find_votes
from tests import plain
from tests.helpers import EqualToAll, NumberTest

NO_VOTES = [-1, 1001, True, False, None, "1", 1.0, (1,), 10 ** 30]
NOT_BY_VOTES = [
    Family(4, (0, 1), (2, 3)), Family(4, (0, 2), (1, 3)), Family(4, (0, 1), (0, 2), (1, 3)), Family(5, (0, 1), (2, 3)),
]


def by_votes(quota, votes):
    """The plain family of the lots whose votes together are at least the quota."""
    return frozenset(lot for lot in plain.lots(len(votes)) if sum(votes[copy] for copy in lot) >= quota)


@cache
def first_votes(copies):
    """For each family that votes up to 12 have, the first of these: by sum, then by votes, then by quota."""
    found = {}
    for total in range(1, 13):
        for votes in product(range(total + 1), repeat=copies):
            if sum(votes) == total:
                for quota in range(1, total + 1):
                    found.setdefault(by_votes(quota, votes), (quota, votes))
    return found


def drawn_votes(seed, many=4):
    """Drawn Votes of 1 to 8 copies: few and many votes, equal ones, and some of 0."""
    draw = random.Random(seed)
    for copies in range(1, 9):
        for most in [1, 2, 5, 12, 1000]:
            for _ in range(many):
                votes = tuple(draw.randint(0, most) for _ in range(copies))
                if sum(votes):
                    yield draw, Votes(draw.randint(1, sum(votes)), *votes)


class MakingTest(NumberTest):
    def test_attributes(self):
        votes = Votes(3, 2, 0, 1000)
        self.assertEqual([votes.quota, votes.votes], [3, (2, 0, 1000)])
        self.assertIs(type(votes.votes), tuple)
        votes = Votes(1, 1)
        self.assertEqual([votes.quota, votes.votes], [1, (1,)])
        votes = Votes(8000, *[1000] * 8)
        self.assertEqual([votes.quota, votes.votes], [8000, (1000,) * 8])

    def test_the_number_of_copies_comes_first(self):
        self.assert_bad_number("copies", 0, Votes, 1)
        self.assert_bad_number("copies", 0, Votes, None)
        self.assert_bad_number("copies", 9, Votes, 1, *[1] * 9)
        self.assert_bad_number("copies", 9, Votes, 0, *[True] * 9)

    def test_the_first_wrong_vote_comes_before_the_quota(self):
        for value in NO_VOTES:
            with self.subTest(repr(value)):
                self.assert_bad_number("vote", value, Votes, 0, value)
                self.assert_bad_number("vote", value, Votes, None, 1, value, -7, 2000)

    def test_a_wrong_quota(self):
        for value in [0, -1, 4, 10 ** 30, True, False, None, "1", 1.0, (1,)]:
            with self.subTest(repr(value)):
                self.assert_bad_number("quota", value, Votes, value, 1, 0, 2)
        self.assertEqual([Votes(1, 1, 0, 2).quota, Votes(3, 1, 0, 2).quota], [1, 3])

    def test_no_quota_fits_votes_of_zero_alone(self):
        for value in [0, 1, 2, True, None]:
            self.assert_bad_number("quota", value, Votes, value, 0, 0)

    def test_a_passed_list_may_be_changed(self):
        passed = [1, 2]
        votes = Votes(2, *passed)
        passed[0] = 7
        self.assertEqual(votes.votes, (1, 2))


class EqualityTest(unittest.TestCase):
    def test_by_quota_and_votes(self):
        rows = [(1, (1, 1)), (2, (1, 1)), (1, (1, 0)), (1, (0, 1)), (1, (1, 1, 0)), (1, (2, 1)), (1, (1,))]
        for left in rows:
            for right in rows:
                self.assertIs(Votes(left[0], *left[1]) == Votes(right[0], *right[1]), left == right)
                self.assertIs(Votes(left[0], *left[1]) != Votes(right[0], *right[1]), left != right)

    def test_values_of_another_class(self):
        votes = Votes(1, 1, 0)
        for value in [None, 1, "votes", (1, (1, 0)), [1, 1, 0], votes.family(), EqualToAll()]:
            with self.subTest(repr(value)):
                self.assertIs(votes == value, False)
                self.assertIs(votes != value, True)


class FamilyTest(unittest.TestCase):
    def assert_family(self, votes):
        self.assertEqual(plain.lots_of(votes.family()), by_votes(votes.quota, votes.votes))
        self.assertEqual(votes.family().copies, len(votes.votes))

    def test_each_quota_from_one_to_the_sum(self):
        for copies in range(1, 5):
            for numbers in product(range(3), repeat=copies):
                for quota in range(1, sum(numbers) + 1):
                    self.assert_family(Votes(quota, *numbers))

    def test_each_quota_with_many_copies(self):
        for numbers in [(1, 0, 2, 3, 1), (1,) * 6, (0, 1, 2, 0, 3, 1, 4), (1, 1, 2, 3, 5, 0, 0, 1)]:
            families = [Votes(quota, *numbers).family() for quota in range(1, sum(numbers) + 1)]
            for quota, family in enumerate(families, 1):
                self.assertEqual(plain.lots_of(family), by_votes(quota, numbers))
            for less, more in zip(families, families[1:]):
                self.assertTrue(more <= less)

    def test_drawn_votes(self):
        for _, votes in drawn_votes(101):
            self.assert_family(votes)

    def test_a_greater_quota_gives_a_part(self):
        for draw, votes in drawn_votes(102):
            greater = draw.randint(votes.quota, sum(votes.votes))
            self.assertTrue(Votes(greater, *votes.votes).family() <= votes.family())

    def test_a_family_of_a_majority(self):
        self.assertEqual(Votes(2, 1, 1, 1).family(), Family(3, (0, 1), (0, 2), (1, 2)))
        self.assertEqual(Votes(2, 1, 0, 1).family(), Family(3, (0, 2)))


class DualTest(unittest.TestCase):
    def test_the_votes_and_the_quota(self):
        for _, votes in drawn_votes(103):
            dual = votes.dual()
            self.assertIs(type(dual), Votes)
            self.assertEqual([dual.votes, dual.quota], [votes.votes, sum(votes.votes) + 1 - votes.quota])

    def test_each_quota_from_one_to_the_sum(self):
        for numbers in [(1,), (2, 1), (1, 0, 2), (1, 1, 2, 3), (1, 0, 2, 3, 1), (1,) * 6, (0, 1, 2, 0, 3, 1, 4)]:
            for quota in range(1, sum(numbers) + 1):
                votes = Votes(quota, *numbers)
                dual = plain.dual(len(numbers), by_votes(quota, numbers))
                self.assertEqual(plain.lots_of(votes.dual().family()), dual)
                self.assertEqual(votes.dual().dual(), votes)

    def test_its_family_is_the_dual_of_the_family(self):
        for _, votes in drawn_votes(104):
            dual = plain.dual(len(votes.votes), by_votes(votes.quota, votes.votes))
            self.assertEqual(plain.lots_of(votes.dual().family()), dual)
            self.assertEqual(votes.dual().family(), votes.family().dual())

    def test_the_dual_of_the_dual(self):
        for _, votes in drawn_votes(105):
            before = (votes.quota, votes.votes)
            self.assertEqual(votes.dual().dual(), votes)
            self.assertEqual((votes.quota, votes.votes), before)


class FindTest(unittest.TestCase):
    def assert_found(self, copies, family, expected):
        found = find_votes(plain.family_of(copies, family))
        if expected is None:
            self.assertIs(found, None)
        else:
            self.assertIs(type(found), Votes)
            self.assertEqual((found.quota, found.votes), expected)

    def test_all_families_of_up_to_four_copies(self):
        for copies in range(1, 5):
            first = first_votes(copies)
            for family in plain.families(copies):
                self.assert_found(copies, family, first.get(family))

    def test_drawn_families_of_five_copies(self):
        first = first_votes(5)
        draw = random.Random(106)
        known = sorted(first, key=lambda family: first[family])
        for family in draw.sample(known, 60) + [plain.draw_family(draw, 5) for _ in range(20)]:
            self.assert_found(5, family, first.get(family))

    def test_sums_up_to_twelve_and_no_greater_ones(self):
        twelve = [family for family, (quota, votes) in first_votes(5).items() if sum(votes) == 12]
        for family in random.Random(108).sample(twelve, 10):
            self.assert_found(5, family, first_votes(5)[family])
        # Families of votes, but of the sums 13 and 16 at the least.
        for more in [Votes(6, 1, 1, 3, 3, 5), Votes(9, 5, 4, 3, 2, 2)]:
            self.assertNotIn(by_votes(more.quota, more.votes), first_votes(5))
            self.assertIs(find_votes(more.family()), None)

    def test_votes_are_found_again_with_no_greater_sum(self):
        for _, votes in drawn_votes(107):
            if sum(votes.votes) <= 12 and len(votes.votes) <= 5:
                found = find_votes(votes.family())
                self.assertEqual(found.family(), votes.family())
                self.assertLessEqual(sum(found.votes), sum(votes.votes))

    def test_families_that_no_votes_have(self):
        for family in NOT_BY_VOTES:
            self.assertIs(find_votes(family), None)

    def test_too_many_copies(self):
        for copies in [6, 7, 8]:
            for family in [Family.whole(copies), Family.each(copies), Family(copies, (0, 1), (2, 3))]:
                with self.assertRaises(TooMany) as caught:
                    find_votes(family)
                self.assertEqual(caught.exception.limit, 5)
        self.assertEqual(find_votes(Family.whole(5)), Votes(5, 1, 1, 1, 1, 1))

    def test_the_example_of_the_document(self):
        family = Family(3, (0, 1), (0, 2), (1, 2))
        votes = find_votes(family)
        self.assertEqual([votes.quota, votes.votes], [2, (1, 1, 1)])
        self.assertEqual(family, Family(3, (0, 1), (0, 2), (1, 2)))

    def test_of_equal_sums_the_least_votes(self):
        self.assertEqual(find_votes(Family(3, (1,))), Votes(1, 0, 1, 0))
        self.assertEqual(find_votes(Family(3, (0,), (1, 2))), Votes(2, 2, 1, 1))
        self.assertEqual(find_votes(Family(1, (0,))), Votes(1, 1))

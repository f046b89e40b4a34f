"""Votes: a family that comes of a number for each copy and of how much is enough."""

from copyvotes.family import marked
from copyvotes.lots import check_copies, check_few
from copyvotes.words import check_number

MOST_VOTES = 1000
MOST_SEARCHED = 5
GREATEST_SUM = 12


class Votes:
    """A vote for each copy, which are the tuple votes, and the quota that is enough."""

    def __init__(self, quota, *votes):
        check_copies(len(votes))
        for vote in votes:
            check_number("vote", vote, 0, MOST_VOTES)
        self.quota = check_number("quota", quota, 1, sum(votes))
        self.votes = votes

    def __eq__(self, other):
        return isinstance(other, Votes) and self.quota == other.quota and self.votes == other.votes

    def family(self):
        """Return the family of the lots whose votes together are at least the quota."""
        return marked(len(self.votes), [total >= self.quota for total in totals_of(self.votes)])

    def dual(self):
        """Return the votes of the dual of the family."""
        return Votes(sum(self.votes) + 1 - self.quota, *self.votes)


def totals_of(votes):
    """Return, for each lot, ascending, the sum of its votes."""
    totals = [0]
    for vote in votes:
        # All lots with this copy follow the same lots without it.
        totals = totals + [total + vote for total in totals]
    return totals


def find_votes(family):
    """Return the votes of the least sum that have the family, None if none up to the greatest sum do."""
    check_few(family.copies, MOST_SEARCHED)
    for total in range(1, GREATEST_SUM + 1):
        for votes in splits(family.copies, total):
            quota = least_quota(votes, family)
            if quota is not None:
                return Votes(quota, *votes)
    return None


def splits(parts, total):
    """Return all tuples of so many numbers with this sum, ascending."""
    if parts == 1:
        return [(total,)]
    return [(first,) + rest for first in range(total + 1) for rest in splits(parts - 1, total - first)]


def least_quota(votes, family):
    """Return the least quota with which the votes have the family, None if there is none."""
    totals = totals_of(votes)
    quota = 1
    for total, mark in zip(totals, family.marks):
        if not mark and total >= quota:
            quota = total + 1
    # A greater quota would leave out still more lots.
    return quota if [total >= quota for total in totals] == list(family.marks) else None

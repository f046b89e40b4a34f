"""Trades: they show that no votes have a family.

The given lots of a trade would have at least as many votes as their number
times the quota, and the taken lots fewer: but both have the same copies.
"""

from copyvotes.errors import BadTrade
from copyvotes.lots import check_few, lot_at, mask_in

MOST_TRADED = 5


def check_trade(family, pairs):
    """Return True if the pairs (given, taken) show that no votes have the family."""
    for place, (given, taken) in enumerate(pairs):
        if given not in family:
            raise BadTrade(place, "given")
        if not is_outside(family, taken):
            raise BadTrade(place, "taken")
    if len(pairs) == 0 or not all([is_even(pairs, copy) for copy in range(family.copies)]):
        raise BadTrade(len(pairs), "copies")
    return True


def is_outside(family, lot):
    """Tell whether this is a lot of the family's copies that the family does not contain."""
    mask = mask_in(family.copies, lot)
    return mask is not None and not family.marks[mask]


def is_even(pairs, copy):
    """Tell whether the copy stands in as many given lots as taken ones."""
    given = len([pair for pair in pairs if copy in pair[0]])
    taken = len([pair for pair in pairs if copy in pair[1]])
    return given == taken


def first_trade(family):
    """Return the first trade of two pairs, None if there is none."""
    check_few(family.copies, MOST_TRADED)
    given = [mask for mask, mark in enumerate(family.marks) if mark]
    for first in given:
        for second in given:
            if first <= second:
                taken = least_taken(family.marks, first, second)
                if taken is not None:
                    other = rest_of(first, second, taken)
                    return [(lot_at(first), lot_at(taken)), (lot_at(second), lot_at(other))]
    return None


def least_taken(marks, first, second):
    """Return the mask of the first lot to take for these two given ones, None if there is none."""
    for taken, mark in enumerate(marks):
        other = rest_of(first, second, taken)
        # The other lot is right for the copies that are given once or never; those given twice must be in both.
        if taken & other == first & second and not mark and not marks[other]:
            return taken
    return None


def rest_of(first, second, taken):
    """Return the mask of the only lot that may be taken beside this one for the two given ones."""
    return first ^ second ^ taken

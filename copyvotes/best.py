"""The most that reads and writes can be worth together, and the writes that reach it."""

from copyvotes.family import Family, is_within, marked
from copyvotes.lots import check_few, middle_lots, whole_lot
from copyvotes.worth import check_share, gain

MOST_COUNTED = 5
MOST_LISTED = 4


def most_worth(chances, share):
    """Return the greatest worth of two families that meet."""
    check_share(share)
    copies = len(chances)
    gains = [gain(chances, share, lot) for lot in middle_lots(copies)]
    # Every family has the lot of all copies, so its gain counts even if it is negative.
    return share + gain(chances, share, whole_lot(copies)) + sum([one for one in gains if one > 0])


def least_writes(chances, share):
    """Return the writes that are contained in all that reach most_worth."""
    check_share(share)
    copies = len(chances)
    return with_whole(copies, [lot for lot in middle_lots(copies) if gain(chances, share, lot) > 0])


def greatest_writes(chances, share):
    """Return the writes that contain all that reach most_worth."""
    check_share(share)
    copies = len(chances)
    return with_whole(copies, [lot for lot in middle_lots(copies) if gain(chances, share, lot) >= 0])


def with_whole(copies, lots):
    """Return the family of the lot of all copies and these lots, of which there may be none."""
    return Family(copies, whole_lot(copies), *lots)


def is_best(chances, share, writes):
    """Tell whether the writes with their dual as reads reach most_worth."""
    least = least_writes(chances, share)
    return least <= writes and writes <= greatest_writes(chances, share)


def count_best(chances, share):
    """Return the number of families of writes that reach most_worth with their duals."""
    check_share(share)
    check_few(len(chances), MOST_COUNTED)
    return len(best_marks(chances, share))


def best_writes(chances, share):
    """Return all families of writes that reach most_worth with their duals."""
    check_share(share)
    check_few(len(chances), MOST_LISTED)
    return [marked(len(chances), marks) for marks in best_marks(chances, share)]


def best_marks(chances, share):
    """Return the marks of all families from least_writes to greatest_writes."""
    return marks_between(least_writes(chances, share).marks, greatest_writes(chances, share).marks)


def marks_between(low, high):
    """Return the marks of all sets of lots from low to high that have, with each lot, every lot that holds it."""
    if len(low) == 1:
        return [low] if low == high else [low, high]
    half = len(low) // 2
    # The second half has the lots of the first one with the last copy: at least those that the first has.
    without = marks_between(low[:half], high[:half])
    having = marks_between(low[half:], high[half:])
    return [first + second for first in without for second in having if is_within(first, second)]

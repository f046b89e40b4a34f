"""The most that is possible if each two writes share a copy."""

from copyvotes.best import least_writes, most_worth
from copyvotes.family import Family
from copyvotes.lots import all_lots, others
from copyvotes.ratio import Ratio
from copyvotes.worth import check_share, worth


def heavy(chances):
    """Return the family of the heavier one of each lot and the lot of the others."""
    copies = len(chances)
    lots = [lot for lot in all_lots(copies) if is_heavier(chances, lot)]
    return Family(copies, *lots)


def is_heavier(chances, lot):
    """Tell whether the lot is heavier than the lot of the others, or as heavy and has copy 0."""
    # The weight of a lot is alone(lot) divided by the chance that no copy is up.
    mine = chances.alone(lot)
    theirs = chances.alone(others(len(chances), lot))
    return mine > theirs or (mine == theirs and 0 in lot)


def most_strict(chances, share):
    """Return the greatest worth of two families that meet, of which the writes are strict."""
    check_share(share)
    if share >= Ratio.half():
        return most_worth(chances, share)
    return chances.up(heavy(chances))


def strict_writes(chances, share):
    """Return strict writes that reach most_strict with their dual as reads."""
    check_share(share)
    if share >= Ratio.half():
        return least_writes(chances, share)
    return heavy(chances)


def is_best_strict(chances, share, writes):
    """Tell whether the writes are strict and reach most_strict with their dual as reads."""
    reached = worth(chances, share, writes.dual(), writes)
    return writes.is_strict() and reached == most_strict(chances, share)

"""Where given writes are best, how much they lose elsewhere, and what one copy adds."""

from copyvotes.best import most_worth
from copyvotes.chances import without_copy
from copyvotes.curve import lot_breaks
from copyvotes.family import check_alike
from copyvotes.lots import middle_lots
from copyvotes.ratio import Ratio
from copyvotes.worth import check_share, gain, worth


def best_span(chances, writes):
    """Return the first and the last share at which the writes reach most_worth with their dual, None if none does."""
    check_alike(len(chances), writes)
    start = Ratio(0)
    end = Ratio(1)
    for lot, turn in lot_breaks(chances):
        if lot in writes:
            if turn < end:
                end = turn
        elif turn > start:
            start = turn
    if start > end:
        return None
    return (start, end)


def wrong_lots(chances, share, writes):
    """Return the middle lots, ascending, that are in the writes and should not be, or the other way round."""
    check_share(share)
    check_alike(len(chances), writes)
    return [lot for lot in middle_lots(len(chances)) if is_wrong(gain(chances, share, lot), lot in writes)]


def is_wrong(gained, taken):
    """Tell whether a lot of this gain was wrongly taken, or wrongly left out."""
    # With a gain of 0 both are right.
    return gained < 0 if taken else gained > 0


def loss(chances, share, writes):
    """Return how much less than most_worth the writes are worth with their dual."""
    return most_worth(chances, share) - worth(chances, share, writes.dual(), writes)


def copy_worth(chances, share, copy):
    """Return how much more most_worth is with the copy than without it."""
    check_share(share)
    rest = without_copy(chances, copy)
    return most_worth(chances, share) - most_worth(rest, share)


def copy_worths(chances, share):
    """Return (copy, copy_worth) of all copies, the greatest worth first, of equal ones the lesser copy first."""
    check_share(share)
    found = []
    for copy in range(len(chances)):
        added = copy_worth(chances, share, copy)
        place = len([row for row in found if row[1] >= added])
        found.insert(place, (copy, added))
    return found

"""How most_worth and its writes change with the share of reads."""

from copyvotes.best import with_whole
from copyvotes.lots import middle_lots, others
from copyvotes.ratio import Ratio
from copyvotes.words import check_number
from copyvotes.worth import check_share


class Curve:
    """most_worth over all shares, as straight pieces.

    rows is the tuple of the pieces (start, end, slope, height, writes),
    ascending.
    """

    def __init__(self, chances):
        turns = lot_breaks(chances)
        bounds = [Ratio(0)] + breaks(chances) + [Ratio(1)]
        self.rows = tuple([piece(chances, turns, start, end) for start, end in zip(bounds, bounds[1:])])

    def __call__(self, share):
        check_share(share)
        fitting = [row for row in self.rows if row[0] <= share and share <= row[1]]
        slope, height = fitting[0][2:4]
        return height + slope * share

    def __getitem__(self, at):
        return self.rows[check_number("place", at, 0, len(self.rows) - 1)]

    def __len__(self):
        return len(self.rows)

    def __iter__(self):
        return iter(self.rows)

    def least(self, share):
        """Return least_writes at the share."""
        check_share(share)
        begun = [row for row in self.rows if row[0] <= share]
        return begun[-1][4]


def lot_breaks(chances):
    """Return (lot, break) of all middle lots, ascending by lot."""
    lots = middle_lots(len(chances))
    return [(lot, lot_break(chances, lot)) for lot in lots]


def lot_break(chances, lot):
    """Return the share below which the gain of the lot is positive, and above which it is negative."""
    mine = chances.alone(lot)
    return mine.divided(mine + chances.alone(others(len(chances), lot)))


def breaks(chances):
    """Return the different breaks of the middle lots, ascending."""
    found = []
    for _, turn in lot_breaks(chances):
        place = len([known for known in found if known < turn])
        if place == len(found) or found[place] != turn:
            found.insert(place, turn)
    return found


def piece(chances, turns, start, end):
    """Return the row of the curve from start to end, two bounds with no break between them."""
    writes = with_whole(len(chances), [lot for lot, turn in turns if turn > start])
    height = chances.up(writes)
    # worth is share * up(reads) + (1 - share) * up(writes), with the dual as reads.
    slope = chances.up(writes.dual()) - height
    return (start, end, slope, height, writes)

"""Tables: how often just the copies of a lot were up, for copies that fail together."""

from copyvotes.errors import BadLot, BadNumber
from copyvotes.family import check_alike
from copyvotes.lots import all_lots, check_copies, is_lot, lot_at, mask_of, others
from copyvotes.words import check_number
from copyvotes.worth import check_meeting, check_share


class Table:
    """The number of moments in which just the copies of a lot were up.

    copies is the number of copies and moments the sum. counts tells the
    number of each lot, ascending.
    """

    def __init__(self, copies, counts):
        check_copies(copies)
        for place, (lot, count) in enumerate(counts.items()):
            if not is_lot(copies, lot):
                raise BadLot(place)
            check_number("count", count, 0, None)
        self.copies = copies
        self.counts = tuple([counts.get(lot, 0) for lot in all_lots(copies)])
        self.moments = sum(self.counts)
        if self.moments == 0:
            raise BadNumber("moments", 0)

    def __eq__(self, other):
        return isinstance(other, Table) and self.copies == other.copies and self.counts == other.counts

    def __add__(self, other):
        check_alike(self.copies, other)
        return counted(self.copies, [mine + theirs for mine, theirs in zip(self.counts, other.counts)])

    def __mul__(self, other):
        check_number("times", other, 1, None)
        return counted(self.copies, [count * other for count in self.counts])

    def __rmul__(self, other):
        return self * other

    def moments_of(self, lot):
        """Return the number of moments in which just the copies of the lot were up."""
        return self.counts[mask_of(self.copies, lot)]


def counted(copies, counts):
    """Return the table with these counts of all lots, ascending."""
    return Table(copies, {lot_at(mask): count for mask, count in enumerate(counts)})


def as_table(chances):
    """Return the table of the counts alone(lot) times the product of all unders."""
    return counted(len(chances), chances.counts)


def up_moments(table, family):
    """Return the number of moments in which all copies of some lot of the family were up."""
    check_alike(table.copies, family)
    return sum([count for count, mark in zip(table.counts, family.marks) if mark])


def table_worth(table, share, reads, writes):
    """Return the share times the moments of a read plus the rest times the moments of a write."""
    check_share(share)
    reading = up_moments(table, reads)
    writing = up_moments(table, writes)
    check_meeting(reads, writes)
    return share * reading + (1 - share) * writing


def table_gain(table, share, lot):
    """Return what the table_worth gains if the lot is in the writes, so that the others are not in the reads."""
    check_share(share)
    mine = table.moments_of(lot)
    theirs = table.moments_of(others(table.copies, lot))
    return (1 - share) * mine - share * theirs

"""Families: which lots are enough."""

from copyvotes.errors import BadLot, BadNumber, Unlike
from copyvotes.lots import check_copies, lot_at, mask_in, mask_of, whole_lot


class Family:
    """A set of lots that contains, with each lot, every lot that holds it.

    copies is the number of copies and lots the tuple of the minimal lots,
    ascending. marks tells of each lot, ascending, whether the family contains
    it.
    """

    def __init__(self, copies, *lots):
        check_copies(copies)
        if len(lots) == 0:
            raise BadNumber("lots", 0)
        marks = marks_above(copies, masks_of(copies, lots))
        self.copies = copies
        self.lots = tuple(minimal_lots(copies, marks))
        self.marks = tuple(marks)

    @staticmethod
    def whole(copies):
        """Return the family that contains the lot of all copies alone."""
        return Family(copies, whole_lot(copies))

    @staticmethod
    def each(copies):
        """Return the family that contains all lots but the empty one."""
        check_copies(copies)
        lots = [(copy,) for copy in range(copies)]
        return Family(copies, *lots)

    def __eq__(self, other):
        return isinstance(other, Family) and self.copies == other.copies and self.lots == other.lots

    def __le__(self, other):
        check_alike(self.copies, other)
        return is_within(self.marks, other.marks)

    def __or__(self, other):
        check_alike(self.copies, other)
        return marked(self.copies, [mine or theirs for mine, theirs in zip(self.marks, other.marks)])

    def __and__(self, other):
        check_alike(self.copies, other)
        return marked(self.copies, [mine and theirs for mine, theirs in zip(self.marks, other.marks)])

    def __contains__(self, lot):
        mask = mask_in(self.copies, lot)
        return mask is not None and self.marks[mask]

    def __len__(self):
        return len(self.lots)

    def __iter__(self):
        return iter(self.lots)

    def every(self):
        """Yield all lots of the family, ascending."""
        for mask, mark in enumerate(self.marks):
            if mark:
                yield lot_at(mask)

    def size(self):
        """Return the number of all lots of the family."""
        return self.marks.count(True)

    def wider(self):
        """Return the family for one copy more, which is never asked for."""
        return Family(self.copies + 1, *self.lots)

    def meets(self, other):
        """Tell whether each lot of this family meets each lot of the other one."""
        check_alike(self.copies, other)
        # A lot misses one of the other family exactly if that one has the lot of all copies
        # left, which stands as far from the end as the lot from the start.
        return not any([mine and theirs for mine, theirs in zip(self.marks, other.marks[::-1])])

    def is_strict(self):
        """Tell whether each two lots of the family meet."""
        return self.meets(self)

    def dual(self):
        """Return the family of all lots that meet every lot of this one."""
        return marked(self.copies, [not mark for mark in self.marks[::-1]])


def check_alike(copies, other):
    """Raise Unlike if the other one is for another number of copies."""
    if other.copies != copies:
        raise Unlike()


def is_within(marks, more):
    """Tell whether each lot that is marked in the first is marked in the second, too."""
    return all([theirs or not mine for mine, theirs in zip(marks, more)])


def masks_of(copies, lots):
    """Return the masks of lots, none of which may be empty."""
    masks = []
    for place, lot in enumerate(lots):
        mask = mask_of(copies, lot)
        if mask == 0:
            raise BadLot(place)
        masks.append(mask)
    return masks


def marks_above(copies, masks):
    """Tell of each lot, ascending, whether it holds one of the lots with these masks."""
    marks = [False for _ in range(1 << copies)]
    for mask in masks:
        marks[mask] = True
    for copy in range(copies):
        bit = 1 << copy
        marks = [mark or marks[mask & ~bit] for mask, mark in enumerate(marks)]
    return marks


def minimal_lots(copies, marks):
    """Return the lots, ascending, that are marked, but not without any one of their copies."""
    bits = [1 << copy for copy in range(copies)]
    found = []
    for mask, mark in enumerate(marks):
        if mark and not any([marks[mask - bit] for bit in bits if mask & bit]):
            found.append(lot_at(mask))
    return found


def marked(copies, marks):
    """Return the family of the marked lots."""
    lots = minimal_lots(copies, marks)
    return Family(copies, *lots)

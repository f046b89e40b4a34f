"""Chances: how likely each copy is up, each by itself."""

from copyvotes.errors import BadNumber
from copyvotes.family import check_alike
from copyvotes.lots import check_copies, check_copy, mask_of
from copyvotes.ratio import Ratio

MOST_UNDER = 1000


class Chances:
    """The chances of copies, which are the tuple ratios.

    scale is the product of their unders, and counts tells of each lot,
    ascending, the chance that just its copies are up, times the scale: an
    integer.
    """

    def __init__(self, *chances):
        check_copies(len(chances))
        for chance in chances:
            check_chance(chance)
        self.ratios = chances
        self.scale = scale_of(chances)
        self.counts = tuple(counts_of(chances))

    def __eq__(self, other):
        return isinstance(other, Chances) and self.ratios == other.ratios

    def __add__(self, other):
        ratios = self.ratios + other.ratios
        return Chances(*ratios)

    def __getitem__(self, at):
        return self.ratios[check_copy(len(self.ratios), at)]

    def __len__(self):
        return len(self.ratios)

    def __iter__(self):
        return iter(self.ratios)

    def with_chance(self, copy, chance):
        """Return the chances that are equal but for the one of this copy."""
        check_copy(len(self.ratios), copy)
        ratios = list(self.ratios)
        ratios[copy] = chance
        return Chances(*ratios)

    def alone(self, lot):
        """Return the chance that just the copies of the lot are up."""
        return Ratio(self.counts[mask_of(len(self.ratios), lot)], self.scale)

    def up(self, family):
        """Return the chance that all copies of some lot of the family are up."""
        check_alike(len(self.ratios), family)
        return Ratio(sum([count for count, mark in zip(self.counts, family.marks) if mark]), self.scale)

    def decides(self, family, copy):
        """Return the chance that what is up makes a lot of the family with this copy, but not without it."""
        check_alike(len(self.ratios), family)
        check_copy(len(self.ratios), copy)
        bit = 1 << copy
        total = 0
        # The copy itself may be up or not: its two chances add up to 1.
        for mask, count in enumerate(self.counts):
            if family.marks[mask | bit] and not family.marks[mask & ~bit]:
                total = total + count
        return Ratio(total, self.scale)


def without_copy(chances, copy):
    """Return the chances of the other copies."""
    check_copy(len(chances), copy)
    ratios = [ratio for place, ratio in enumerate(chances) if place != copy]
    return Chances(*ratios)


def is_short(value):
    """Tell whether the value is a ratio whose under is not too great for a chance or a share."""
    return isinstance(value, Ratio) and value.under <= MOST_UNDER


def check_chance(chance):
    """Return the value if it is a chance of a copy."""
    if not is_short(chance) or chance < Ratio.half() or chance >= 1:
        raise BadNumber("chance", chance)
    return chance


def scale_of(ratios):
    """Return the product of the unders."""
    scale = 1
    for ratio in ratios:
        scale = scale * ratio.under
    return scale


def counts_of(ratios):
    """Return, for each lot, ascending, the chance that just its copies are up, times the product of the unders."""
    counts = [1]
    for ratio in ratios:
        down = ratio.under - ratio.over
        # All lots with this copy follow the same lots without it.
        counts = [count * down for count in counts] + [count * ratio.over for count in counts]
    return counts

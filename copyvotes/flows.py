"""The most for copies that fail together, and flows that show that no choice is worth more.

Writes have, with each lot, every lot that holds it. So a lot of positive gain
may not be taken without lots of negative gain above it. A flow lets lots hand
on their gain to lots above them: then each lot may be judged by itself.
"""

from copyvotes.best import with_whole
from copyvotes.errors import BadFlow
from copyvotes.lots import is_lot, lot_at, lot_of, middle_lots, whole_lot
from copyvotes.ratio import Ratio, ratio_of
from copyvotes.table import table_gain
from copyvotes.worth import check_share


class Settling:
    """Lots, as masks, that have handed on as much gain as the lots above them lack.

    rest is what each lot has left, an integer; a lot of which less than 0 is
    left lacks so much. sent tells of (mask, bit) how much the lot has handed
    on to the lot with this bit. closed are the lots that keep more than 0 and
    those that they could still hand it on to.
    """

    def __init__(self, copies, gains):
        self.bits = [1 << copy for copy in range(copies)]
        self.full = (1 << copies) - 1
        self.rest = list(gains)
        self.sent = {}
        self.closed = {}
        for mask in range(1, self.full):
            self.settle(mask)

    def settle(self, start):
        """Let the lot hand on all that it can."""
        # No way leads out of the closed lots, and none of them lacks anything.
        while self.rest[start] > 0 and start not in self.closed:
            before, goal = self.search(start)
            if goal is None:
                for mask in before:
                    self.closed[mask] = True
            else:
                self.push(way_to(before, goal))

    def search(self, start):
        """Return the lots that can be reached, each with the one before it, and the first that lacks or None."""
        before = {start: None}
        queue = [start]
        place = 0
        while place < len(queue):
            mask = queue[place]
            place += 1
            for other in self.next_to(mask):
                if other not in before:
                    before[other] = mask
                    queue.append(other)
                    if self.rest[other] < 0:
                        return before, other
        return before, None

    def next_to(self, mask):
        """Return the middle lots above that may get more, and those below that may take back what they gave."""
        above = [mask + bit for bit in self.bits if not mask & bit and mask + bit != self.full]
        below = [mask - bit for bit in self.bits if (mask - bit, bit) in self.sent]
        return above + below

    def push(self, way):
        """Hand on as much as possible along the way."""
        amount = self.room(way)
        for mask, other in zip(way, way[1:]):
            if mask < other:
                self.hand_on(mask, other - mask, amount)
            else:
                self.hand_on(other, mask - other, -amount)
        self.rest[way[0]] = self.rest[way[0]] - amount
        self.rest[way[-1]] = self.rest[way[-1]] + amount

    def room(self, way):
        """Return how much can be handed on along the way."""
        limits = [-self.rest[way[-1]]]
        for mask, other in zip(way, way[1:]):
            if other < mask:
                limits.append(self.sent[other, mask - other])
        amount = self.rest[way[0]]
        for limit in limits:
            if limit < amount:
                amount = limit
        return amount

    def hand_on(self, mask, bit, amount):
        """Add to what the lot has handed on to the lot with this bit."""
        self.sent[mask, bit] = self.sent.get((mask, bit), 0) + amount
        if self.sent[mask, bit] == 0:
            del self.sent[mask, bit]


def way_to(before, goal):
    """Return the lots on the way to the goal."""
    way = []
    mask = goal
    while mask is not None:
        way.append(mask)
        mask = before[mask]
    return way[::-1]


def settled(table, share):
    """Return the settling of the gains of the table's lots, which are integers times the under of the share."""
    check_share(share)
    reads = share.over
    writes = share.under - share.over
    # The lot of the others stands as far from the end as the lot from the start.
    gains = [writes * mine - reads * theirs for mine, theirs in zip(table.counts, table.counts[::-1])]
    return Settling(table.copies, gains)


def table_most(table, share):
    """Return the greatest table_worth of two families that meet."""
    rest = settled(table, share).rest
    # Every family has the lot of all copies, so its gain counts even if it is negative.
    total = share.over * table.moments + rest[-1] + sum([left for left in rest[1:-1] if left > 0])
    return Ratio(total, share.under)


def table_writes(table, share):
    """Return the writes that are contained in all that reach table_most with their duals."""
    settling = settled(table, share)
    return with_whole(table.copies, [lot_at(mask) for mask in settling.closed])


def told_flow(table, share):
    """Return a flow of which the bound is table_most."""
    sent = settled(table, share).sent
    return {(lot_at(mask), bit.bit_length() - 1): Ratio(sent[mask, bit], share.under) for mask, bit in sent}


def check_flow(table, share, flow):
    """Return the bound on table_worth that the flow shows."""
    check_share(share)
    for key, value in flow.items():
        check_step(table.copies, key, value)
    kept = {lot: table_gain(table, share, lot) for lot in middle_lots(table.copies)}
    for (lot, copy), value in flow.items():
        higher = lot_of(table.copies, lot + (copy,))
        kept[lot] = kept[lot] - value
        kept[higher] = kept[higher] + value
    bound = share * table.moments + table_gain(table, share, whole_lot(table.copies))
    return bound + sum([kept[lot] for lot in kept if kept[lot] > 0])


def check_step(copies, key, value):
    """Raise BadFlow if the key is not (lot, copy) of two middle lots, or the value is not so much that flows."""
    if not isinstance(key, tuple) or len(key) != 2:
        raise BadFlow(key, None)
    lot, copy = key
    if not is_step(copies, lot, copy) or not is_amount(value):
        raise BadFlow(lot, copy)


def is_step(copies, lot, copy):
    """Tell whether the lot and the lot with the copy, which it has not yet, are middle lots."""
    if not is_lot(copies, lot) or not is_lot(copies, (copy,)):
        return False
    return copy not in lot and len(lot) > 0 and len(lot) < copies - 1


def is_amount(value):
    """Tell whether the value is a ratio or an integer that is not negative."""
    ratio = ratio_of(value)
    return ratio is not None and ratio >= 0

"""What the document says of lots and families, said again with frozensets and Fractions, and values that are drawn.

Nothing here uses the program but the functions at the end, which make its objects.
"""

from fractions import Fraction
from functools import cache
from itertools import combinations
from math import ceil, floor

from copyvotes.chances import Chances
from copyvotes.family import Family
from copyvotes.ratio import Ratio
from copyvotes.table import Table


def number(lot):
    return sum(2 ** copy for copy in lot)


def lots(copies):
    """All lots, ascending."""
    found = [frozenset(lot) for size in range(copies + 1) for lot in combinations(range(copies), size)]
    return sorted(found, key=number)


def others(copies, lot):
    return frozenset(range(copies)) - lot


def above(copies, some):
    """All lots that hold one of these."""
    return frozenset(lot for lot in lots(copies) if any(lot.issuperset(one) for one in some))


def minimal(family):
    """The minimal lots, ascending, as tuples."""
    least = [lot for lot in family if not any(lot > other for other in family)]
    return tuple(tuple(sorted(lot)) for lot in sorted(least, key=number))


@cache
def families(copies):
    """All families: from the lot of all copies on, lot by lot, each after all that hold it."""
    known = {frozenset([frozenset(range(copies))])}
    fresh = list(known)
    while fresh:
        family = fresh.pop()
        for lot in lots(copies)[1:]:
            if lot not in family and all(lot | {copy} in family for copy in others(copies, lot)):
                larger = family | {lot}
                if larger not in known:
                    known.add(larger)
                    fresh.append(larger)
    return sorted(known, key=lambda family: sorted(map(number, family)))


def meet(one, other):
    return all(left & right for left in one for right in other)


def dual(copies, family):
    return frozenset(lot for lot in lots(copies) if all(lot & other for other in family))


def alone(chances, lot):
    """The chance that just these copies are up."""
    chance = Fraction(1)
    for copy, up in enumerate(chances):
        chance *= up if copy in lot else 1 - up
    return chance


def up(chances, family):
    return sum((alone(chances, lot) for lot in family), Fraction(0))


def worth(chances, share, reads, writes):
    return share * up(chances, reads) + (1 - share) * up(chances, writes)


def gain(chances, share, lot):
    return (1 - share) * alone(chances, lot) - share * alone(chances, others(len(chances), lot))


def middle_lots(copies):
    return lots(copies)[1:-1]


def breaks(chances):
    """The different shares at which the gain of a middle lot is 0, ascending."""
    found = set()
    for lot in middle_lots(len(chances)):
        mine, theirs = alone(chances, lot), alone(chances, others(len(chances), lot))
        found.add(mine / (mine + theirs))
    return sorted(found)


def shares(chances):
    """0, 1/2 and 1, and for each break: itself, if it may be a share, and shares just below and just above it."""
    found = {Fraction(0), Fraction(1, 2), Fraction(1)}
    for turn in breaks(chances):
        found |= {Fraction(ceil(turn * 1000) - 1, 1000), Fraction(floor(turn * 1000) + 1, 1000)}
        if turn.denominator <= 1000:
            found.add(turn)
    return sorted(found)


def chances_to_try(random, copies):
    """Lists of chances: of 1/2 alone, of one other chance alone, of 1/2 among others, and two that are drawn."""
    half = Fraction(1, 2)
    tried = [[half] * copies, [draw_chance(random)] * copies, [half] + draw_chances(random, copies - 1)]
    return tried + [draw_chances(random, copies) for _ in range(2)]


@cache
def with_duals(copies):
    """All families of writes, each with its dual."""
    return [(writes, dual(copies, writes)) for writes in families(copies)]


def ups(chances):
    """All families of writes, each with the chance of a read by its dual and the one of a write."""
    return [(writes, up(chances, reads), up(chances, writes)) for writes, reads in with_duals(len(chances))]


def worths(share, rows):
    """The worth of all families of writes with their duals, from the rows of ups."""
    return {writes: share * reading + (1 - share) * writing for writes, reading, writing in rows}


def draw_chance(random):
    """A chance from 1/2 on; 1/2 itself and small unders come often."""
    under = random.choice([2, 3, 4, 5, 10, 100, 997, 1000])
    return Fraction(random.randint((under + 1) // 2, under - 1), under)


def draw_chances(random, copies):
    return [draw_chance(random) for _ in range(copies)]


def draw_share(random):
    under = random.choice([1, 2, 3, 4, 5, 10, 100, 999, 1000])
    return Fraction(random.randint(0, under), under)


def draw_family(random, copies):
    many = random.randint(1, 4)
    return above(copies, random.sample(lots(copies)[1:], min(many, 2 ** copies - 1)))


def drawn_pairs(random, copies, many):
    """Pairs of drawn families; in every other one the first is within the second."""
    pairs = []
    for place in range(many):
        left, right = draw_family(random, copies), draw_family(random, copies)
        pairs.append((left, left | right) if place % 2 else (left, right))
    return pairs


def draw_counts(random, copies, most=99):
    """How many moments just the copies of each lot were up; many lots come with none, one has some."""
    counts = {lot: random.choice([0, random.randint(0, most)]) for lot in lots(copies)}
    counts[random.choice(lots(copies))] = random.randint(1, most)
    return counts


def up_moments(counts, family):
    return sum(counts[lot] for lot in family)


def table_worth(counts, share, reads, writes):
    return share * up_moments(counts, reads) + (1 - share) * up_moments(counts, writes)


def table_gain(copies, counts, share, lot):
    return (1 - share) * counts[lot] - share * counts[others(copies, lot)]


def fraction_of(ratio):
    return Fraction(ratio.over, ratio.under)


def ratio_of(fraction):
    return Ratio(fraction.numerator, fraction.denominator)


def chances_of(fractions):
    return Chances(*[ratio_of(fraction) for fraction in fractions])


def table_of(copies, counts):
    return Table(copies, {tuple(sorted(lot)): count for lot, count in counts.items()})


def family_of(copies, family):
    """The program's family of exactly these lots."""
    return Family(copies, *[tuple(sorted(lot)) for lot in sorted(family, key=number)])


def lots_of(family):
    """All lots of a family of the program, as frozensets."""
    return frozenset(frozenset(lot) for lot in family.every())

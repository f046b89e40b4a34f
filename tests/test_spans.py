"""Where writes are best, what they lose elsewhere, and what a copy adds: promises [38] and [39]."""

import random
from fractions import Fraction

from copyvotes.best import is_best, most_worth
from copyvotes.chances import Chances
from copyvotes.curve import Curve
from copyvotes.errors import Unlike
from copyvotes.family import Family
from copyvotes.ratio import Ratio
from copyvotes.spans import best_span, copy_worth, copy_worths, loss, wrong_lots
from copyvotes.worth import gain, worth
from tests import plain
from tests.helpers import NO_COPY, NO_SHARES, NumberTest

HALF = Ratio(1, 2)
THREE = Chances(Ratio(3, 4), Ratio(3, 4), Ratio(3, 4))
MAJORITY = Family(3, (0, 1), (0, 2), (1, 2))


def points(fractions):
    """0, 1, all breaks and the middles between them, ascending."""
    bounds = sorted({Fraction(0), Fraction(1), *plain.breaks(fractions)})
    return sorted(bounds + [(left + right) / 2 for left, right in zip(bounds, bounds[1:])])


def spans(fractions):
    """For each family of writes the first and the last of the points at which it reaches the most, or None."""
    found = {writes: None for writes in plain.families(len(fractions))}
    rows = plain.ups(fractions)
    for share in points(fractions):
        values = plain.worths(share, rows)
        most = max(values.values())
        for writes in values:
            if values[writes] == most:
                found[writes] = ((found[writes] or (share,))[0], share)
    return found


def drawn(seed, many=3):
    """Drawn chances, shares and families of writes of 1 to 8 copies; some of the writes are those of a curve."""
    draw = random.Random(seed)
    for copies in range(1, 9):
        for place in range(many):
            fractions = draw.choice(plain.chances_to_try(draw, copies))
            chances = plain.chances_of(fractions)
            writes = plain.family_of(copies, plain.draw_family(draw, copies))
            if place % 2:
                writes = draw.choice(list(Curve(chances)))[4]
            yield draw, fractions, chances, plain.draw_share(draw), writes


class SpanTest(NumberTest):
    def test_against_shares_at_between_and_beyond_all_breaks(self):
        draw = random.Random(131)
        told = {"none": 0, "one share": 0, "more": 0}
        for copies in range(1, 5):
            for fractions in plain.chances_to_try(draw, copies):
                chances = plain.chances_of(fractions)
                for writes, span in spans(fractions).items():
                    found = best_span(chances, plain.family_of(copies, writes))
                    if span is None:
                        told["none"] += 1
                        self.assertIs(found, None)
                    else:
                        told["one share" if span[0] == span[1] else "more"] += 1
                        self.assertEqual(found, (plain.ratio_of(span[0]), plain.ratio_of(span[1])))
        self.assertGreater(min(told.values()), 20)

    def test_is_best_exactly_within_it(self):
        for draw, fractions, chances, _, writes in drawn(132):
            span = best_span(chances, writes)
            shares = plain.shares(fractions)
            for share in map(plain.ratio_of, draw.sample(shares, min(12, len(shares)))):
                expected = span is not None and span[0] <= share <= span[1]
                self.assertIs(is_best(chances, share, writes), expected)

    def test_kinds(self):
        span = best_span(THREE, MAJORITY)
        self.assertIs(type(span), tuple)
        self.assertEqual([type(part) for part in span], [Ratio, Ratio])

    def test_a_few_by_hand(self):
        rows = [
            (THREE, MAJORITY, ("1/4", "3/4")), (THREE, Family.each(3), ("0", "1/4")),
            (THREE, Family.whole(3), ("3/4", "1")), (THREE, Family(3, (0,), (1, 2)), ("1/4", "1/4")),
            (THREE, Family(3, (0, 1)), ("3/4", "3/4")), (THREE, Family(3, (0,)), None),
            (Chances(HALF), Family(1, (0,)), ("0", "1")), (Chances(HALF, HALF), Family.each(2), ("0", "1/2")),
        ]
        for chances, writes, expected in rows:
            span = best_span(chances, writes)
            self.assertEqual(None if span is None else (str(span[0]), str(span[1])), expected)

    def test_bounds_with_an_under_above_a_thousand(self):
        chances = Chances(Ratio(999, 1000), Ratio(998, 999), Ratio(2, 3))
        span = best_span(chances, Curve(chances)[1][4])
        self.assertGreater(max(span[0].under, span[1].under), 1000)

    def test_the_rows_of_a_curve(self):
        draw = random.Random(133)
        for copies in range(1, 9):
            for fractions in plain.chances_to_try(draw, copies)[:5 if copies < 6 else 2]:
                chances = plain.chances_of(fractions)
                rows = list(Curve(chances))
                for row in draw.sample(rows, min(6, len(rows))):
                    self.assertEqual(best_span(chances, row[4]), (row[0], row[1]))

    def test_the_dual(self):
        for _, _, chances, _, writes in drawn(134, 6):
            span = best_span(chances, writes)
            expected = None if span is None else (1 - span[1], 1 - span[0])
            self.assertEqual(best_span(chances, writes.dual()), expected)

    def test_unlike(self):
        for copies in [1, 2, 4, 8]:
            with self.assertRaises(Unlike):
                best_span(THREE, Family.each(copies))


class WrongLotsTest(NumberTest):
    def test_against_the_gains(self):
        for draw, fractions, chances, drawn_share, writes in drawn(135):
            taken = plain.lots_of(writes)
            for share in [drawn_share, draw.choice(plain.shares(fractions))]:
                wrong = []
                for lot in plain.middle_lots(len(fractions)):
                    value = plain.gain(fractions, share, lot)
                    if (value < 0 and lot in taken) or (value > 0 and lot not in taken):
                        wrong.append(tuple(sorted(lot)))
                self.assertEqual(wrong_lots(chances, plain.ratio_of(share), writes), wrong)

    def test_a_few_by_hand(self):
        rows = [
            (Ratio(1, 4), Family(3, (0,)), [(1, 2)]), (Ratio(1, 5), Family(3, (0,)), [(1,), (2,), (1, 2)]),
            (HALF, MAJORITY, []), (Ratio(4, 5), MAJORITY, [(0, 1), (0, 2), (1, 2)]), (Ratio(3, 4), MAJORITY, []),
            (HALF, Family.whole(3), [(0, 1), (0, 2), (1, 2)]), (HALF, Family.each(3), [(0,), (1,), (2,)]),
        ]
        for share, writes, expected in rows:
            self.assertEqual(wrong_lots(THREE, share, writes), expected)

    def test_a_list_of_its_own(self):
        found = wrong_lots(THREE, HALF, Family.each(3))
        self.assertIs(type(found), list)
        found.clear()
        self.assertEqual(len(wrong_lots(THREE, HALF, Family.each(3))), 3)


class LossTest(NumberTest):
    def test_most_worth_less_the_worth_with_the_dual(self):
        for _, fractions, chances, share, writes in drawn(136, 5):
            copies, asked, taken = len(fractions), plain.ratio_of(share), plain.lots_of(writes)
            gains = {lot: plain.gain(fractions, share, lot) for lot in plain.middle_lots(copies)}
            whole = plain.gain(fractions, share, frozenset(range(copies)))
            most = share + whole + sum(value for value in gains.values() if value > 0)
            found = loss(chances, asked, writes)
            self.assertIs(type(found), Ratio)
            reached = plain.worth(fractions, share, plain.dual(copies, taken), taken)
            self.assertEqual(found, plain.ratio_of(most - reached))
            self.assertEqual(found, most_worth(chances, asked) - worth(chances, asked, writes.dual(), writes))

    def test_the_sum_of_the_gains_of_the_wrong_lots_without_their_sign(self):
        for _, _, chances, share, writes in drawn(137, 4):
            asked = plain.ratio_of(share)
            gains = [plain.fraction_of(gain(chances, asked, lot)) for lot in wrong_lots(chances, asked, writes)]
            self.assertEqual(loss(chances, asked, writes), plain.ratio_of(sum(map(abs, gains), Fraction(0))))

    def test_zero_exactly_if_the_share_is_in_the_span(self):
        for draw, fractions, chances, _, writes in drawn(138):
            span = best_span(chances, writes)
            for share in map(plain.ratio_of, draw.choices(plain.shares(fractions), k=6)):
                found = loss(chances, share, writes)
                self.assertGreaterEqual(found, 0)
                self.assertIs(found == Ratio(0), span is not None and span[0] <= share <= span[1])

    def test_a_few_by_hand(self):
        found = [str(loss(THREE, share, Family.whole(3))) for share in [Ratio(0), HALF, Ratio(3, 4), Ratio(1)]]
        self.assertEqual(found, ["9/16", "9/64", "0", "0"])
        self.assertEqual(loss(Chances(HALF), Ratio(1, 3), Family(1, (0,))), Ratio(0))


class ErrorsTest(NumberTest):
    def test_the_share_comes_before_unlike(self):
        for call in [wrong_lots, loss]:
            for share in NO_SHARES:
                for copies in [3, 2]:
                    with self.subTest(str(share)):
                        self.assert_bad_number("share", share, call, THREE, share, Family.each(copies))
            for copies in [1, 2, 4, 8]:
                with self.assertRaises(Unlike):
                    call(THREE, HALF, Family.each(copies))

    def test_nothing_is_changed(self):
        writes = Family(3, (0,), (1, 2))
        for call in [wrong_lots, loss]:
            call(THREE, HALF, writes)
        best_span(THREE, writes)
        copy_worth(THREE, HALF, 0)
        copy_worths(THREE, HALF)
        self.assertEqual([writes, THREE], [Family(3, (0,), (1, 2)), Chances(*[Ratio(3, 4)] * 3)])


class CopyTest(NumberTest):
    def test_most_worth_less_most_worth_without_the_copy(self):
        for draw, fractions, chances, share, _ in drawn(139):
            if len(fractions) > 1:
                asked = plain.ratio_of(share)
                for copy in range(len(fractions)):
                    rest = plain.chances_of(fractions[:copy] + fractions[copy + 1:])
                    found = copy_worth(chances, asked, copy)
                    self.assertIs(type(found), Ratio)
                    self.assertEqual(found, most_worth(chances, asked) - most_worth(rest, asked))
                    self.assertGreaterEqual(found, 0)

    def test_a_few_by_hand(self):
        self.assertEqual([str(copy_worth(THREE, HALF, copy)) for copy in range(3)], ["3/32"] * 3)
        chances = Chances(Ratio(9, 10), HALF)
        self.assertEqual([str(copy_worth(chances, HALF, copy)) for copy in range(2)], ["2/5", "0"])

    def test_errors_in_their_order(self):
        one = Chances(HALF)
        for share in NO_SHARES:
            with self.subTest(str(share)):
                self.assert_bad_number("share", share, copy_worth, THREE, share, 7)
                self.assert_bad_number("share", share, copy_worth, one, share, 0)
                self.assert_bad_number("share", share, copy_worths, THREE, share)
                self.assert_bad_number("share", share, copy_worths, one, share)
        for value in NO_COPY:
            self.assert_bad_number("copy", value, copy_worth, THREE, HALF, value)
            self.assert_bad_number("copy", value, copy_worth, one, HALF, value)
        self.assert_bad_number("copy", 1, copy_worth, one, HALF, 1)
        self.assert_bad_number("copies", 0, copy_worth, one, HALF, 0)
        self.assert_bad_number("copies", 0, copy_worths, one, HALF)

    def test_all_copies_the_greatest_worth_first(self):
        for _, fractions, chances, share, _ in drawn(140):
            if len(fractions) > 1:
                asked = plain.ratio_of(share)
                rows = [(copy, plain.fraction_of(copy_worth(chances, asked, copy))) for copy in range(len(fractions))]
                rows.sort(key=lambda row: (-row[1], row[0]))
                expected = [(copy, plain.ratio_of(value)) for copy, value in rows]
                self.assertEqual(copy_worths(chances, asked), expected)

    def test_of_equal_ones_the_lesser_copy_first(self):
        chances = Chances(Ratio(2, 3), Ratio(9, 10), Ratio(2, 3), Ratio(9, 10), Ratio(3, 4))
        found = [(copy, str(value)) for copy, value in copy_worths(chances, HALF)]
        self.assertEqual(found, [(1, "1/24"), (3, "1/24"), (4, "1/50"), (0, "1/200"), (2, "1/200")])
        self.assertEqual([row[0] for row in copy_worths(THREE, Ratio(1, 3))], [0, 1, 2])

    def test_kinds(self):
        found = copy_worths(THREE, HALF)
        self.assertIs(type(found), list)
        self.assertEqual([(type(row), type(row[0]), type(row[1])) for row in found], [(tuple, int, Ratio)] * 3)
        found.clear()
        self.assertEqual(len(copy_worths(THREE, HALF)), 3)

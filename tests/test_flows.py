"""Copies that fail together: promises [27] to [29], and what [30] says of them."""

import random
import unittest
from fractions import Fraction

from copyvotes.best import least_writes, most_worth
from copyvotes.chances import Chances
from copyvotes.errors import BadFlow
from copyvotes.family import Family
from copyvotes.flows import check_flow, table_most, table_writes, told_flow
from copyvotes.ratio import Ratio
from copyvotes.table import Table, as_table, table_worth
from tests import plain
from tests.helpers import NO_SHARES, NumberTest

HALF = Ratio(1, 2)
COUNTS = {(0,): 6, (1,): 2, (2,): 2, (0, 1, 2): 4}
TABLE = Table(3, COUNTS)
FOUR = Table(4, {(0,): 5, (1, 2): 3, (0, 1, 2): 1, (3,): 2})
# What is no middle lot of four copies that leaves room for one copy more, as it stands.
NO_LOTS = [
    (1, 0), (0, 0), (), (0, 1, 2, 3), (0, 1, 3), (1, 2, 3), (4,), (-1,), (True,), ("0",), (None,), [0], 0, None, "0",
    "01", (0, (1,)),
]
NO_VALUES = [-1, -10 ** 30, Ratio(-1, 1000), True, False, None, "1", 0.5, (1,), [1], Fraction(1, 2)]


def tables(seed, low=1, high=8, many=6):
    """Drawn counts and tables, with shares."""
    draw = random.Random(seed)
    for copies in range(low, high + 1):
        for most in [1, 9, 999]:
            for _ in range(many):
                counts = plain.draw_counts(draw, copies, most)
                yield draw, copies, counts, plain.table_of(copies, counts), plain.draw_share(draw)


def steps(copies):
    """All pairs of a middle lot and a copy with which it is a middle lot, too."""
    lots = [lot for lot in plain.middle_lots(copies) if len(lot) < copies - 1]
    return [(tuple(sorted(lot)), copy) for lot in lots for copy in sorted(plain.others(copies, lot))]


def draw_flow(draw, copies):
    """A flow of integers, ratios and zeros in any order."""
    known = steps(copies)
    values = [0, Ratio(0), draw.randint(1, 50), Ratio(draw.randint(1, 99), draw.randint(1, 9)), Ratio(3, 2500)]
    return {step: draw.choice(values) for step in draw.sample(known, draw.randint(0, min(len(known), 40)))}


def kept(copies, counts, share, flow):
    """What each middle lot has left of its gain, as the document tells."""
    found = {lot: plain.table_gain(copies, counts, share, lot) for lot in plain.middle_lots(copies)}
    for (lot, copy), value in flow.items():
        amount = plain.fraction_of(value) if isinstance(value, Ratio) else value
        found[frozenset(lot)] -= amount
        found[frozenset(lot) | {copy}] += amount
    return found


def bound(copies, counts, share, flow):
    left = [value for value in kept(copies, counts, share, flow).values() if value > 0]
    whole = plain.table_gain(copies, counts, share, frozenset(range(copies)))
    return share * sum(counts.values()) + whole + sum(left)


def gains_of_all(copies, counts, share):
    """For all families of writes, the sum of the gains of their lots: the worth with the dual less the same for all."""
    gains = {lot: plain.table_gain(copies, counts, share, lot) for lot in plain.lots(copies)}
    return {writes: sum(gains[lot] for lot in writes) for writes in plain.families(copies)}


def best_of(values):
    most = max(values.values())
    return [writes for writes in values if values[writes] == most]


class CheckTest(NumberTest):
    def test_the_bound_of_drawn_flows(self):
        for draw, copies, counts, table, share in tables(141):
            flow = draw_flow(draw, copies)
            found = check_flow(table, plain.ratio_of(share), flow)
            self.assertIs(type(found), Ratio)
            self.assertEqual(found, plain.ratio_of(bound(copies, counts, share, flow)))

    def test_the_empty_flow(self):
        for _, copies, counts, table, share in tables(142, many=2):
            self.assertEqual(
                check_flow(table, plain.ratio_of(share), {}), plain.ratio_of(bound(copies, counts, share, {})))

    def test_a_few_by_hand(self):
        rows = [
            ({}, "14"), ({((0,), 1): 1}, "13"), ({((0,), 1): 2}, "13"), ({((0,), 1): 1, ((0,), 2): Ratio(1)}, "12"),
            ({((0,), 1): Ratio(1, 3)}, "41/3"), ({((1,), 0): 0}, "14"), ({((1,), 0): 5}, "17"),
            ({((1,), 2): 1, ((0,), 2): 1, ((2,), 1): 1, ((0,), 1): 1}, "10"),
        ]
        self.assertEqual([str(check_flow(TABLE, HALF, flow)) for flow, _ in rows], [told for _, told in rows])

    def test_a_wrong_share_comes_first(self):
        for share in NO_SHARES:
            with self.subTest(str(share)):
                self.assert_bad_number("share", share, check_flow, TABLE, share, {})
                self.assert_bad_number("share", share, check_flow, TABLE, share, {"a": -1})

    def assert_bad_flow(self, lot, member, flow, table=FOUR):
        with self.assertRaises(BadFlow) as caught:
            check_flow(table, HALF, flow)
        self.assertIs(type(caught.exception.lot), type(lot))
        self.assertIs(type(caught.exception.member), type(member))
        self.assertEqual((caught.exception.lot, caught.exception.member), (lot, member))

    def test_a_wrong_lot(self):
        for lot in NO_LOTS:
            for copy in [2, 3]:
                if not isinstance(lot, list):
                    with self.subTest(repr(lot)):
                        self.assert_bad_flow(lot, copy, {(lot, copy): 1})
                        self.assert_bad_flow(lot, copy, {((0,), 1): 1, (lot, copy): -1, ((1, 0), 2): 1})

    def test_a_wrong_copy(self):
        for copy in [0, 1, 4, -1, 10 ** 30, True, False, None, "2", "a", 2.0, (), (2,)]:
            with self.subTest(repr(copy)):
                self.assert_bad_flow((0, 1), copy, {((0, 1), copy): 1})
                self.assert_bad_flow((0, 1), copy, {((1,), 2): 0, ((0, 1), copy): "a", ((0,), 0): 1})

    def test_few_copies_have_no_steps(self):
        self.assert_bad_flow((0,), 1, {((0,), 1): 1}, Table(2, {(0,): 1}))
        self.assert_bad_flow((), 0, {((), 0): 1}, Table(1, {(0,): 1}))
        self.assert_bad_flow((0,), 0, {((0,), 0): 1}, Table(1, {(0,): 1}))
        self.assertEqual(check_flow(Table(3, {(0,): 1}), HALF, {((0,), 1): 0}), Ratio(1))

    def test_all_pairs_of_a_lot_and_a_copy(self):
        for copies in range(1, 6):
            table = Table(copies, {(): 1})
            right = set(steps(copies))
            for lot in plain.lots(copies):
                for copy in range(copies + 1):
                    step = (tuple(sorted(lot)), copy)
                    if step in right:
                        self.assertIs(type(check_flow(table, HALF, {step: 1})), Ratio)
                    else:
                        self.assert_bad_flow(*step, {step: 1}, table)

    def test_a_wrong_value(self):
        for value in NO_VALUES:
            with self.subTest(repr(value)):
                self.assert_bad_flow((0, 1), 2, {((0, 1), 2): value})
                self.assert_bad_flow((3,), 1, {((0, 1), 2): 0, ((3,), 1): value, ((1,), 0): -1})

    def test_a_key_that_is_no_tuple_of_two_things(self):
        for key in [0, None, True, "ab", "", (), ((0,),), ((0,), 1, 2), 1.5, frozenset([0, 1]), (0, 1, 2)]:
            with self.subTest(repr(key)):
                self.assert_bad_flow(key, None, {key: 1})
                self.assert_bad_flow(key, None, {((1,), 2): 1, key: -1, ((1,), 1): 1})
        self.assert_bad_flow(0, 1, {(0, 1): 1})
        self.assert_bad_flow((0,), 0, {((0,), 0): 1, "a": 1})

    def test_the_flow_stays_as_it_was(self):
        flow = {((0,), 1): 2, ((1,), 2): Ratio(1, 3), ((0, 1), 2): 0}
        check_flow(FOUR, HALF, flow)
        self.assertEqual(list(flow.items()), [(((0,), 1), 2), (((1,), 2), Ratio(1, 3)), (((0, 1), 2), 0)])
        flow[(0,), 0] = 1
        self.assert_bad_flow((0,), 0, flow)
        self.assertEqual(len(flow), 4)


class MostTest(NumberTest):
    def test_against_all_families_with_their_duals(self):
        for _, copies, counts, table, share in tables(143, high=4, many=4):
            worths = [plain.table_worth(counts, share, reads, writes) for writes, reads in plain.with_duals(copies)]
            found = table_most(table, plain.ratio_of(share))
            self.assertIs(type(found), Ratio)
            self.assertEqual(found, plain.ratio_of(max(worths)))

    def test_no_two_families_that_meet_are_worth_more(self):
        draw = random.Random(144)
        for copies in range(1, 4):
            known = [plain.family_of(copies, family) for family in plain.families(copies)]
            table = plain.table_of(copies, plain.draw_counts(draw, copies))
            share = plain.ratio_of(plain.draw_share(draw))
            values = [
                plain.fraction_of(table_worth(table, share, reads, writes))
                for reads in known for writes in known if reads.meets(writes)
            ]
            self.assertEqual(table_most(table, share), plain.ratio_of(max(values)))

    def test_the_least_writes_against_all_families(self):
        for _, copies, counts, table, share in tables(145, high=4, many=8):
            best = best_of(gains_of_all(copies, counts, share))
            found = plain.lots_of(table_writes(table, plain.ratio_of(share)))
            self.assertIn(found, best)
            self.assertEqual(found, frozenset.intersection(*best))

    def test_five_copies_against_all_families(self):
        for _, copies, counts, table, share in tables(146, low=5, high=5, many=1):
            values = gains_of_all(copies, counts, share)
            found = plain.lots_of(table_writes(table, plain.ratio_of(share)))
            self.assertEqual(found, frozenset.intersection(*best_of(values)))
            most = share * sum(counts.values()) + max(values.values())
            self.assertEqual(table_most(table, plain.ratio_of(share)), plain.ratio_of(most))

    def test_the_writes_reach_the_most(self):
        for _, copies, _, table, share in tables(147, low=5, many=3):
            asked = plain.ratio_of(share)
            writes = table_writes(table, asked)
            self.assertIs(type(writes), Family)
            self.assertEqual(table_worth(table, asked, writes.dual(), writes), table_most(table, asked))

    def test_the_share_comes_first(self):
        for call in [table_most, table_writes, told_flow]:
            for share in NO_SHARES:
                with self.subTest(str(share)):
                    self.assert_bad_number("share", share, call, TABLE, share)

    def test_multiplied_tables(self):
        for draw, _, _, table, share in tables(148, many=1):
            times, asked = draw.randint(2, 10 ** 12), plain.ratio_of(share)
            self.assertEqual(table_most(table * times, asked), table_most(table, asked) * times)
            self.assertEqual(table_writes(table * times, asked), table_writes(table, asked))

    def test_tables_added(self):
        for draw, copies, _, table, share in tables(149, many=3):
            more, asked = plain.table_of(copies, plain.draw_counts(draw, copies)), plain.ratio_of(share)
            self.assertLessEqual(table_most(table + more, asked), table_most(table, asked) + table_most(more, asked))

    def test_a_share_and_one_minus_it(self):
        for _, _, _, table, share in tables(150, many=3):
            asked = plain.ratio_of(share)
            self.assertEqual(table_most(table, asked), table_most(table, 1 - asked))

    def test_shares_of_zero_and_one(self):
        for _, copies, counts, table, _ in tables(151, many=2):
            # Then only the writes count, or only the reads, and all lots but the empty one can be enough for them.
            most = sum(counts.values()) - counts[frozenset()]
            self.assertEqual([table_most(table, Ratio(share)) for share in (0, 1)], [Ratio(most)] * 2)
            self.assertEqual(table_writes(table, Ratio(1)), Family.whole(copies))

    def test_one_copy(self):
        table = Table(1, {(): 3, (0,): 4})
        for share in [Ratio(0), HALF, Ratio(1)]:
            self.assertEqual([table_most(table, share), table_writes(table, share)], [Ratio(4), Family.whole(1)])
            self.assertEqual([told_flow(table, share), check_flow(table, share, {})], [{}, Ratio(4)])

    def test_the_example_of_the_document(self):
        self.assertEqual([str(table_most(TABLE, HALF)), table_writes(TABLE, HALF).lots], ["10", ((0,),)])
        self.assertEqual(TABLE, Table(3, COUNTS))

    def test_writes_that_pay_for_lots_above_them(self):
        # The lots (0, 1) and (0, 2) lose 3/2 each, so (0,) is taken only if it brings in more than 3.
        low = {(0,): 5, (2,): 3, (1,): 3}
        self.assertEqual(table_writes(Table(3, {**low, (1, 2): 0}), HALF), Family.whole(3))
        self.assertEqual(table_writes(Table(3, {**low, (0,): 7}), HALF), Family(3, (0,)))


class ToldTest(unittest.TestCase):
    def assert_told(self, table, share):
        flow = told_flow(table, share)
        self.assertIs(type(flow), dict)
        known = set(steps(table.copies))
        for step, value in flow.items():
            self.assertIn(step, known)
            self.assertIs(type(step[0]), tuple)
            self.assertIn(type(value), [int, Ratio])
            self.assertGreater(value, 0)
        self.assertEqual(check_flow(table, share, flow), table_most(table, share))
        return flow

    def test_its_bound_is_the_most(self):
        for _, copies, counts, table, share in tables(152):
            flow = self.assert_told(table, plain.ratio_of(share))
            most = table_most(table, plain.ratio_of(share))
            self.assertEqual(most, plain.ratio_of(bound(copies, counts, share, flow)))

    def test_shares_at_which_much_flows(self):
        for draw, copies, _, table, _ in tables(153, low=3, many=2):
            for share in [Ratio(1, 3), HALF, Ratio(draw.randint(300, 700), 1000)]:
                self.assert_told(table, share)

    def test_lots_of_one_copy_that_pay_for_all_above_them(self):
        for copies in range(3, 9):
            for low, high in [(999, 1), (50, 999), (3, 2)]:
                counts = {(copy,): low for copy in range(0, copies, 2)}
                counts[tuple(range(copies - 1))] = high
                counts[tuple(range(1, copies))] = high
                for share in [Ratio(1, 10), Ratio(2, 5), HALF, Ratio(9, 10)]:
                    self.assert_told(Table(copies, counts), share)

    def test_great_counts(self):
        draw = random.Random(154)
        counts = {lot: count * 10 ** 30 + 1 for lot, count in plain.draw_counts(draw, 6).items()}
        self.assert_told(plain.table_of(6, counts), Ratio(499, 1000))

    def test_the_least_writes_by_what_the_flow_leaves(self):
        # All best families have the lots with something left, all above their lots, and all that hand on to these.
        for _, copies, counts, table, share in tables(155, low=5, many=2):
            asked = plain.ratio_of(share)
            flow = told_flow(table, asked)
            handed = {(frozenset(lot), copy) for lot, copy in flow}
            found = {lot for lot, value in kept(copies, counts, share, flow).items() if value > 0}
            fresh = list(found)
            while fresh:
                lot = fresh.pop()
                above = [lot | {copy} for copy in plain.others(copies, lot)]
                below = [lot - {copy} for copy in lot if (lot - {copy}, copy) in handed]
                for other in above + below:
                    if other not in found:
                        found.add(other)
                        fresh.append(other)
            found.add(frozenset(range(copies)))
            self.assertEqual(plain.lots_of(table_writes(table, asked)), found)

    def test_a_flow_that_was_told_may_be_changed(self):
        for share in [Ratio(1, 3), HALF]:
            table = Table(4, {(0,): 9, (1,): 5, (2,): 4, (1, 2): 6, (0, 3): 2, (3,): 3})
            flow = self.assert_told(table, share)
            before = [(step, str(value)) for step, value in flow.items()]
            flow.clear()
            flow["a"] = 1
            self.assertEqual([(step, str(value)) for step, value in told_flow(table, share).items()], before)
            self.assert_told(table, share)


class AsTableTest(unittest.TestCase):
    def test_most_writes_and_the_empty_flow(self):
        draw = random.Random(156)
        for copies in range(1, 9):
            for fractions in plain.chances_to_try(draw, copies):
                chances = plain.chances_of(fractions)
                table = as_table(chances)
                for share in draw.sample(plain.shares(fractions), 3):
                    asked = plain.ratio_of(share)
                    most = most_worth(chances, asked) * table.moments
                    self.assertEqual(table_most(table, asked), most)
                    self.assertEqual(check_flow(table, asked, {}), most)
                    self.assertEqual(table_writes(table, asked), least_writes(chances, asked))
                    self.assertEqual(check_flow(table, asked, told_flow(table, asked)), most)

    def test_nothing_is_changed(self):
        table = as_table(Chances(HALF, HALF))
        for call in [table_most, table_writes, told_flow]:
            call(table, HALF)
        self.assertEqual(table, Table(2, {(): 1, (0,): 1, (1,): 1, (0, 1): 1}))

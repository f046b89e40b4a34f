"""A store that goes on: promises [31] and [32]."""

import random

from copyvotes.best import least_writes, most_worth
from copyvotes.chances import Chances
from copyvotes.errors import BadDeed, BadNumber, NothingToUndo, VoteError
from copyvotes.family import Family
from copyvotes.live import Store
from copyvotes.ratio import Ratio
from copyvotes.strict import strict_writes
from tests import plain
from tests.helpers import NO_CHANCES, NO_COPY, NO_SHARES, NumberTest

HALF = Ratio(1, 2)
THREE = Chances(Ratio(3, 4), HALF, Ratio(9, 10))
EIGHT = Chances(*[Ratio(3, 4)] * 8)
ONE = Chances(Ratio(2, 3))
NO_COUNTS = [0, -1, 101, 10 ** 30, True, False, None, "1", 1.0, (1,), HALF]
NO_CHANGES = [
    "undo", "most", "writes", "strict", "share", "chances", "depth", "do_all", "set", "SET_SHARE", "set_share ", "",
    "__init__", None, 0, ["set_share"], ("set_share",),
]


def shown(store):
    return ([str(ratio) for ratio in store.chances], str(store.share), store.depth)


class StoreTest(NumberTest):
    """A test case that can ask for an error that changes nothing."""

    def assert_refused(self, store, what, value, call, *arguments):
        before = shown(store)
        self.assert_bad_number(what, value, call, *arguments)
        self.assertEqual(shown(store), before)


class MakingTest(StoreTest):
    def test_properties_and_depth(self):
        store = Store(THREE, Ratio(1, 4))
        self.assertEqual([store.chances, store.share, store.depth], [THREE, Ratio(1, 4), 0])
        self.assertIs(type(store.depth), int)
        for name in ["chances", "share"]:
            self.assertIs(type(vars(Store)[name]), property)

    def test_a_wrong_share(self):
        for share in NO_SHARES:
            with self.subTest(str(share)):
                self.assert_bad_number("share", share, Store, THREE, share)

    def test_most_writes_and_strict(self):
        draw = random.Random(161)
        for copies in range(1, 9):
            for share in [HALF, plain.ratio_of(plain.draw_share(draw))]:
                chances = plain.chances_of(plain.draw_chances(draw, copies))
                store = Store(chances, share)
                self.assertEqual(store.most(), most_worth(chances, share))
                self.assertEqual(store.writes(), least_writes(chances, share))
                self.assertEqual(store.strict(), strict_writes(chances, share))
                self.assertEqual([store.chances, store.share, store.depth], [chances, share, 0])

    def test_most_writes_and_strict_are_those_of_now(self):
        store = Store(Chances(*[Ratio(3, 4)] * 3), HALF)
        majority = Family(3, (0, 1), (0, 2), (1, 2))
        self.assertEqual([str(store.most()), store.writes(), store.strict()], ["27/32", majority, majority])
        store.share = Ratio(1, 5)
        self.assertEqual([store.writes(), store.strict()], [Family.each(3), majority])
        store.drop_copy(2)
        self.assertEqual([store.writes(), store.strict()], [Family.each(2), Family(2, (0,))])
        store.undo(2)
        self.assertEqual([str(store.most()), store.writes(), store.strict()], ["27/32", majority, majority])


class ShareTest(StoreTest):
    def test_set_and_assigned(self):
        store = Store(THREE, HALF)
        self.assertIs(store.set_share(Ratio(1, 3)), None)
        self.assertEqual(shown(store), (["3/4", "1/2", "9/10"], "1/3", 1))
        store.share = Ratio(0)
        self.assertEqual(shown(store), (["3/4", "1/2", "9/10"], "0", 2))
        store.share = Ratio(0)
        self.assertEqual(store.depth, 3)
        store.undo(2)
        self.assertEqual(shown(store), (["3/4", "1/2", "9/10"], "1/3", 1))

    def test_a_wrong_share(self):
        store = Store(THREE, HALF)
        store.set_share(Ratio(1))
        for share in NO_SHARES:
            with self.subTest(str(share)):
                self.assert_refused(store, "share", share, store.set_share, share)
                self.assert_refused(store, "share", share, setattr, store, "share", share)

    def test_the_chances_are_not_assigned(self):
        store = Store(THREE, HALF)
        with self.assertRaises(AttributeError):
            store.chances = ONE
        self.assertEqual(store.chances, THREE)


class ChangesTest(StoreTest):
    def test_set_chance(self):
        store = Store(THREE, HALF)
        self.assertIs(store.set_chance(1, Ratio(2, 3)), None)
        self.assertEqual(shown(store), (["3/4", "2/3", "9/10"], "1/2", 1))
        for copy in range(3):
            store.set_chance(copy, HALF)
        self.assertEqual(shown(store), (["1/2", "1/2", "1/2"], "1/2", 4))

    def test_set_chance_refuses_the_copy_before_the_chance(self):
        store = Store(THREE, HALF)
        for value in NO_COPY:
            self.assert_refused(store, "copy", value, store.set_chance, value, HALF)
            self.assert_refused(store, "copy", value, store.set_chance, value, None)
        for value in NO_CHANCES:
            self.assert_refused(store, "chance", value, store.set_chance, 2, value)

    def test_add_copy(self):
        store = Store(ONE, HALF)
        for many in range(2, 9):
            self.assertIs(store.add_copy(Ratio(many - 1, many)), None)
            self.assertEqual([len(store.chances), store.depth], [many, many - 1])
            self.assertEqual(store.chances[many - 1], Ratio(many - 1, many))
        self.assertEqual(shown(store)[0], ["2/3", "1/2", "2/3", "3/4", "4/5", "5/6", "6/7", "7/8"])

    def test_add_copy_refuses_a_ninth_one_before_the_chance(self):
        store = Store(EIGHT, HALF)
        for value in [HALF] + NO_CHANCES:
            self.assert_refused(store, "copies", 9, store.add_copy, value)
        store = Store(THREE, HALF)
        for value in NO_CHANCES:
            self.assert_refused(store, "chance", value, store.add_copy, value)

    def test_drop_copy(self):
        for copy, left in [(0, ["1/2", "9/10"]), (1, ["3/4", "9/10"]), (2, ["3/4", "1/2"])]:
            store = Store(THREE, HALF)
            self.assertIs(store.drop_copy(copy), None)
            self.assertEqual(shown(store), (left, "1/2", 1))

    def test_drop_copy_refuses_a_wrong_copy_before_the_only_one(self):
        store = Store(THREE, HALF)
        for value in NO_COPY:
            self.assert_refused(store, "copy", value, store.drop_copy, value)
        store = Store(ONE, HALF)
        self.assert_refused(store, "copies", 0, store.drop_copy, 0)
        for value in [1, -1, True, None, "0"]:
            self.assert_refused(store, "copy", value, store.drop_copy, value)

    def test_a_change_counts_also_if_nothing_differs(self):
        store = Store(THREE, HALF)
        store.set_share(HALF)
        store.set_chance(1, HALF)
        store.add_copy(HALF)
        store.drop_copy(3)
        self.assertEqual(shown(store), (["3/4", "1/2", "9/10"], "1/2", 4))
        store.undo()
        self.assertEqual(shown(store), (["3/4", "1/2", "9/10", "1/2"], "1/2", 3))
        store.undo(3)
        self.assertEqual(shown(store), (["3/4", "1/2", "9/10"], "1/2", 0))

    def test_the_passed_chances_and_other_stores_stay(self):
        chances = Chances(HALF, Ratio(3, 4))
        store, other = Store(chances, HALF), Store(chances, HALF)
        store.set_chance(0, Ratio(2, 3))
        store.add_copy(HALF)
        store.share = Ratio(1, 5)
        self.assertEqual(chances, Chances(HALF, Ratio(3, 4)))
        self.assertEqual([other.chances, other.share, other.depth], [chances, HALF, 0])
        other.drop_copy(0)
        self.assertEqual(shown(store), (["2/3", "3/4", "1/2"], "1/5", 3))
        self.assertEqual(shown(other), (["3/4"], "1/2", 1))


class UndoTest(StoreTest):
    def assert_nothing(self, store, *arguments):
        before = shown(store)
        with self.assertRaises(NothingToUndo):
            store.undo(*arguments)
        self.assertEqual(shown(store), before)

    def test_back_through_all_changes(self):
        store = Store(THREE, HALF)
        seen = [shown(store)]
        for change in [
            lambda: store.set_share(Ratio(1, 3)), lambda: store.set_chance(2, Ratio(2, 3)),
            lambda: store.add_copy(Ratio(4, 5)), lambda: store.drop_copy(0), lambda: store.set_share(Ratio(1)),
        ]:
            change()
            seen.append(shown(store))
        self.assertEqual([depth for _, _, depth in seen], list(range(6)))
        for expected in seen[-2::-1]:
            self.assertIs(store.undo(), None)
            self.assertEqual(shown(store), expected)
        self.assert_nothing(store)

    def test_several_at_once(self):
        for count in range(1, 7):
            store = Store(ONE, Ratio(0))
            for number in range(1, 7):
                store.set_share(Ratio(number, 10))
            self.assertIs(store.undo(count), None)
            self.assertEqual([store.share, store.depth], [Ratio(6 - count, 10), 6 - count])
            self.assertIs(store.undo(count=6 - count) if count < 6 else None, None)
            self.assertEqual([store.share, store.depth], [Ratio(0), 0])

    def test_a_wrong_count_comes_first(self):
        for store in [Store(THREE, HALF), Store(THREE, HALF)]:
            for value in NO_COUNTS:
                with self.subTest(repr(value)):
                    self.assert_refused(store, "count", value, store.undo, value)
            store.set_share(HALF)
            for value in NO_COUNTS:
                self.assert_refused(store, "count", value, store.undo, value)

    def test_nothing_to_undo(self):
        store = Store(THREE, HALF)
        for count in [1, 2, 100]:
            self.assert_nothing(store, count)
        self.assert_nothing(store)
        store.set_share(Ratio(1, 3))
        store.set_share(Ratio(1, 4))
        self.assert_nothing(store, 3)
        self.assert_nothing(store, 100)
        store.undo(2)
        self.assertEqual(shown(store), (["3/4", "1/2", "9/10"], "1/2", 0))
        self.assert_nothing(store)

    def test_a_hundred_changes_and_more(self):
        store = Store(ONE, Ratio(0))
        for number in range(1, 251):
            store.share = Ratio(number, 1000)
        self.assertEqual(store.depth, 250)
        store.undo(100)
        self.assertEqual([store.share, store.depth], [Ratio(150, 1000), 150])
        self.assert_refused(store, "count", 101, store.undo, 101)
        store.undo(100)
        self.assertEqual([store.share, store.depth], [Ratio(50, 1000), 50])
        self.assert_nothing(store, 51)
        store.undo(50)
        self.assertEqual([store.share, store.depth], [Ratio(0), 0])

    def test_changes_behind_an_undo(self):
        store = Store(ONE, Ratio(0))
        store.set_share(Ratio(1, 2))
        store.set_share(Ratio(1, 3))
        store.undo()
        store.set_share(Ratio(1, 4))
        self.assertEqual([store.share, store.depth], [Ratio(1, 4), 2])
        store.undo()
        self.assertEqual([store.share, store.depth], [Ratio(1, 2), 1])
        store.undo()
        self.assertEqual([store.share, store.depth], [Ratio(0), 0])


class DoAllTest(StoreTest):
    def assert_bad_deed(self, store, place, deeds, cause=None):
        before = shown(store)
        with self.assertRaises(BadDeed) as caught:
            store.do_all(*deeds)
        self.assertEqual(caught.exception.place, place)
        self.assertEqual(shown(store), before)
        if cause is None:
            self.assertIs(caught.exception.__cause__, None)
            self.assertIs(caught.exception.__context__, None)
        else:
            self.assertIs(type(caught.exception.__cause__), BadNumber)
            self.assertEqual((caught.exception.__cause__.what, caught.exception.__cause__.value), cause)

    def test_several_changes_one_by_one(self):
        store = Store(THREE, HALF)
        self.assertIs(store.do_all(
            ("add_copy", Ratio(4, 5)), ("set_chance", 3, Ratio(5, 6)), ("drop_copy", 0), ("set_share", Ratio(1, 7)),
        ), None)
        self.assertEqual(shown(store), (["1/2", "9/10", "5/6"], "1/7", 4))
        store.undo()
        self.assertEqual(shown(store), (["1/2", "9/10", "5/6"], "1/2", 3))
        store.undo()
        self.assertEqual(shown(store), (["3/4", "1/2", "9/10", "5/6"], "1/2", 2))
        store.undo(2)
        self.assertEqual(shown(store), (["3/4", "1/2", "9/10"], "1/2", 0))

    def test_no_deeds(self):
        store = Store(THREE, HALF)
        self.assertIs(store.do_all(), None)
        self.assertEqual(shown(store), (["3/4", "1/2", "9/10"], "1/2", 0))

    def test_all_or_none(self):
        store = Store(THREE, HALF)
        store.set_share(Ratio(1, 3))
        right = [("set_share", Ratio(1, 9)), ("add_copy", HALF), ("set_chance", 3, Ratio(2, 3)), ("drop_copy", 1)]
        wrong = [
            (("set_share", Ratio(2)), ("share", Ratio(2))), (("set_share", None), ("share", None)),
            (("set_chance", 7, None), ("copy", 7)), (("set_chance", 0, Ratio(1)), ("chance", Ratio(1))),
            (("add_copy", True), ("chance", True)), (("drop_copy", -1), ("copy", -1)),
        ]
        for deed, cause in wrong:
            for place in range(len(right) + 1):
                deeds = right[:place] + [deed] + right[place:] + [("drop_copy", 99), ("none",)]
                self.assert_bad_deed(store, place, deeds, cause)
        store.do_all(*right)
        self.assertEqual(shown(store), (["3/4", "9/10", "2/3"], "1/9", 5))

    def test_each_on_what_the_earlier_ones_made(self):
        store = Store(ONE, HALF)
        self.assert_bad_deed(store, 1, [("add_copy", HALF), ("drop_copy", 2)], ("copy", 2))
        self.assert_bad_deed(store, 2, [("add_copy", HALF), ("drop_copy", 1), ("drop_copy", 0)], ("copies", 0))
        self.assert_bad_deed(store, 7, [("add_copy", HALF)] * 9, ("copies", 9))
        store.do_all(*[("add_copy", HALF)] * 7)
        self.assertEqual([len(store.chances), store.depth], [8, 7])
        self.assert_bad_deed(store, 0, [("add_copy", None)], ("copies", 9))
        store.undo(7)
        self.assertEqual(shown(store), (["2/3"], "1/2", 0))

    def test_a_name_that_is_no_change(self):
        store = Store(THREE, HALF)
        store.set_share(Ratio(1, 3))
        for name in NO_CHANGES:
            with self.subTest(repr(name)):
                self.assert_bad_deed(store, 0, [(name,), ("set_share", None)])
                self.assert_bad_deed(store, 1, [("add_copy", HALF), (name, HALF), ("set_share", None)])
                self.assert_bad_deed(store, 2, [("set_share", HALF), ("drop_copy", 0), (name, 1, 2)])

    def test_the_cause_is_the_error_of_the_deed(self):
        store, value = Store(THREE, HALF), [1]
        with self.assertRaises(VoteError) as caught:
            store.do_all(("set_share", HALF), ("set_share", value))
        self.assertIs(type(caught.exception), BadDeed)
        self.assertIs(caught.exception.__cause__.value, value)

    def test_the_deeds_stay_as_they_were(self):
        store, deeds = Store(THREE, HALF), [("set_chance", 0, HALF), ("drop_copy", 1)]
        store.do_all(*deeds)
        self.assertEqual([deed[:2] for deed in deeds], [("set_chance", 0), ("drop_copy", 1)])


class ManyChangesTest(NumberTest):
    def draw_deed(self, draw):
        under = draw.choice([2, 3, 4, 10])
        ratio = Ratio(draw.randint(0, under), under)
        return draw.choice([
            ("set_share", ratio), ("set_chance", draw.randint(0, 4), ratio), ("add_copy", ratio),
            ("drop_copy", draw.randint(0, 3)),
        ])

    def after(self, state, deed):
        """The state behind a deed, told with lists; None if it is refused."""
        chances, share = state
        name, *rest = deed
        if name == "set_share":
            return chances, rest[0]
        if name == "drop_copy":
            fits = rest[0] < len(chances) > 1
            return (chances[:rest[0]] + chances[rest[0] + 1:], share) if fits else None
        if not HALF <= rest[-1] < 1:
            return None
        if name == "add_copy":
            return (chances + [rest[0]], share) if len(chances) < 8 else None
        if rest[0] >= len(chances):
            return None
        return chances[:rest[0]] + [rest[1]] + chances[rest[0] + 1:], share

    def test_drawn_changes_against_a_list_of_states(self):
        draw = random.Random(162)
        for _ in range(20):
            store, past = Store(THREE, HALF), [(list(THREE), HALF)]
            for _ in range(60):
                if draw.randint(0, 3) == 0:
                    self.undo(store, past, draw.randint(1, 6))
                else:
                    self.change(store, past, [self.draw_deed(draw) for _ in range(draw.choice([1, 1, 1, 2, 3]))])
                self.assertEqual([list(store.chances), store.share, store.depth], [*past[-1], len(past) - 1])

    def undo(self, store, past, count):
        if count < len(past):
            store.undo(count)
            del past[-count:]
        else:
            with self.assertRaises(NothingToUndo):
                store.undo(count)

    def change(self, store, past, deeds):
        states = [past[-1]]
        for place, deed in enumerate(deeds):
            states.append(self.after(states[-1], deed))
            if states[-1] is None:
                with self.assertRaises(BadDeed) as caught:
                    store.do_all(*deeds)
                self.assertEqual(caught.exception.place, place)
                return
        if len(deeds) == 1:
            getattr(store, deeds[0][0])(*deeds[0][1:])
        else:
            store.do_all(*deeds)
        past.extend(states[1:])

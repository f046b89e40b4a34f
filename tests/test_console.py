"""The console: promises [35] and [36]."""

import random

from copyvotes.chances import Chances
from copyvotes.console import console
from copyvotes.curve import Curve
from copyvotes.errors import NothingToUndo, VoteError
from copyvotes.family import Family
from copyvotes.live import Store
from copyvotes.ratio import Ratio, read_ratio
from copyvotes.strict import heavy, most_strict
from copyvotes.votes import find_votes
from tests import plain
from tests.helpers import NO_NUMBER_WORDS, NO_RATIO_WORDS, NO_SHARES, NumberTest

HALF = Ratio(1, 2)
THREE = Chances(Ratio(3, 4), Ratio(3, 4), Ratio(3, 4))
ASKING = ["most", "strict", "writes", "reads", "heavy", "votes", "table"]
COMMANDS = ASKING + ["share", "chance", "add", "drop", "undo"]


def lots_told(family):
    return " ".join(",".join(map(str, lot)) for lot in family.lots)


def votes_told(family):
    if family.copies > 5:
        return "many"
    votes = find_votes(family)
    return "none" if votes is None else " ".join([f"{votes.quota}:", *map(str, votes.votes)])


def expected(chances, share):
    """The answers to the lines of ASKING, from the calls that the document names."""
    store = Store(chances, share)
    rows = [
        str(start).rjust(9) + str(end).rjust(10) + str(len(writes.lots)).rjust(4)
        for start, end, _, _, writes in Curve(chances)
    ]
    return [
        str(store.most()), str(most_strict(chances, share)), lots_told(store.writes()),
        lots_told(store.writes().dual()), lots_told(heavy(chances)), votes_told(store.writes()), "\n".join(rows),
    ]


class AskingTest(NumberTest):
    def test_against_the_calls(self):
        draw = random.Random(181)
        for copies in range(1, 9):
            for fractions in plain.chances_to_try(draw, copies)[::1 if copies < 7 else 3]:
                chances, share = plain.chances_of(fractions), plain.ratio_of(plain.draw_share(draw))
                self.assertEqual(console(chances, share, ASKING), expected(chances, share))

    def test_a_few_by_hand(self):
        self.assertEqual(console(THREE, HALF, ASKING[:6]), [
            "27/32", "27/32", "0,1 0,2 1,2", "0,1 0,2 1,2", "0,1 0,2 1,2", "2: 1 1 1",
        ])
        self.assertEqual(console(THREE, Ratio(1, 5), ASKING[:6]), [
            str(Store(THREE, Ratio(1, 5)).most()), "27/32", "0 1 2", "0,1,2", "0,1 0,2 1,2", "1: 1 1 1",
        ])
        self.assertEqual(console(Chances(Ratio(2, 3)), Ratio(0), ASKING[:6]), ["2/3", "2/3", "0", "0", "0", "1: 1"])

    def test_the_table_by_hand(self):
        rows = ["        0       1/4   3", "      1/4       3/4   3", "      3/4         1   1"]
        self.assertEqual(console(THREE, HALF, ["table"]), ["\n".join(rows)])
        self.assertEqual(console(Chances(HALF), HALF, ["table"]), ["        0         1   1"])

    def test_a_table_with_longer_texts(self):
        chances = Chances(Ratio(999, 1000), Ratio(998, 999), Ratio(997, 998), Ratio(2, 3))
        told = console(chances, HALF, ["table"])[0]
        self.assertEqual(told, expected(chances, HALF)[6])
        starts = [str(row[0]) for row in Curve(chances)]
        self.assertGreater(max(map(len, starts)), 10)
        self.assertLess(len(told.split("\n")[0]), max(map(len, told.split("\n"))))

    def test_votes_that_are_none_or_many(self):
        # The votes of these writes are 1 1 3 3 5 with the quota 6: their sum is 13.
        chances = Chances(Ratio(2, 3), Ratio(2, 3), Ratio(8, 9), Ratio(8, 9), Ratio(32, 33))
        store = Store(chances, Ratio(1, 5))
        self.assertIs(find_votes(store.writes()), None)
        self.assertEqual(console(chances, Ratio(1, 5), ["votes"]), ["none"])
        answers = console(chances, Ratio(1, 5), ["add 1/2", "votes", "drop 5", "votes", "share 1", "votes"])
        self.assertEqual(answers, ["done", "many", "done", "none", "done", "5: 1 1 1 1 1"])
        self.assertEqual(console(Chances(*[HALF] * 8), HALF, ["votes"]), ["many"])


class ChangingTest(NumberTest):
    def test_changes_and_what_holds_then(self):
        lines = ["share 1/5", "chance 1 4/5", "add 9/10", "drop 0", "undo"]
        states = [
            (THREE, Ratio(1, 5)), (THREE.with_chance(1, Ratio(4, 5)), Ratio(1, 5)),
            (Chances(Ratio(3, 4), Ratio(4, 5), Ratio(3, 4), Ratio(9, 10)), Ratio(1, 5)),
            (Chances(Ratio(4, 5), Ratio(3, 4), Ratio(9, 10)), Ratio(1, 5)),
            (Chances(Ratio(3, 4), Ratio(4, 5), Ratio(3, 4), Ratio(9, 10)), Ratio(1, 5)),
        ]
        for many in range(1, 6):
            answers = console(THREE, HALF, lines[:many] + ASKING)
            self.assertEqual(answers, ["done"] * many + expected(*states[many - 1]))

    def test_undo_back_to_the_start(self):
        lines = ["share 1/5", "add 9/10", "undo", "undo", "undo", "most"]
        self.assertEqual(console(THREE, HALF, lines), ["done"] * 4 + ["nothing", "27/32"])

    def test_ratios_that_are_not_in_lowest_terms(self):
        lines = ["share 500/1000", "chance 0 6/8", "add 1500/2000", "drop 3", "most"]
        self.assertEqual(console(THREE, Ratio(1, 5), lines), ["done"] * 4 + ["27/32"])

    def test_no_lines(self):
        self.assertEqual(console(THREE, HALF, []), [])
        self.assertEqual(console(THREE, HALF, ()), [])

    def test_the_share_comes_first(self):
        for share in NO_SHARES:
            with self.subTest(str(share)):
                for lines in [[], ["most"], ["x"]]:
                    self.assert_bad_number("share", share, console, THREE, share, lines)

    def test_what_is_passed_stays_and_what_is_returned_is_new(self):
        lines = ["share 1/5", "drop 0", "x", "undo"]
        answers = console(THREE, HALF, lines)
        self.assertEqual(lines, ["share 1/5", "drop 0", "x", "undo"])
        self.assertEqual(THREE, Chances(*[Ratio(3, 4)] * 3))
        self.assertIs(type(answers), list)
        answers.clear()
        self.assertEqual(console(THREE, HALF, lines), ["done", "done", "unknown", "done"])


class WrongTest(NumberTest):
    def assert_answers(self, answer, lines, chances=THREE):
        """Each line has the answer, and changes nothing: not the store, and no undo behind it."""
        for line in lines:
            with self.subTest(line):
                answers = console(chances, HALF, ["share 1/5", line] + ASKING + ["undo", "undo"])
                self.assertEqual(answers, ["done", answer] + expected(chances, Ratio(1, 5)) + ["done", "nothing"])

    def test_unknown(self):
        lines = ["", " ", " most", "Most", "most\n", "mosts", "x", "x  ", "share1/2", "set_share 1/2", "0", "done"]
        self.assert_answers("unknown", lines)

    def test_a_wrong_number_of_words(self):
        for command in COMMANDS:
            lines = [f"{command} ", f"{command}  ", f"{command} 1 1/2 1", f"{command} 1 1/2 "]
            if command in ASKING + ["undo"]:
                lines += [f"{command} 1", f"{command} 1/2", f"{command} x"]
            else:
                lines += [command]
            if command != "chance":
                lines += [f"{command} 0 1/2"]
            self.assert_answers("form", lines)
        self.assert_answers("form", ["chance 1/2", "chance 0", "chance  1/2", "chance 0  1/2", "share  1/2", "drop  0"])

    def test_words_that_are_no_ratio(self):
        for word in NO_RATIO_WORDS:
            self.assert_answers("form", [f"share {word}", f"chance 0 {word}", f"add {word}"])

    def test_words_that_are_no_number(self):
        for word in NO_NUMBER_WORDS:
            self.assert_answers("form", [f"drop {word}", f"chance {word} 1/2"])

    def test_the_form_comes_before_the_number(self):
        self.assert_answers("form", ["chance 7 1/0", "chance x 1/3", "chance 9999 x"])

    def test_numbers(self):
        ratios = ["0", "1", "1/3", "2", "9999", "1/1001", "501/1001", "999/1001", "0/1"]
        self.assert_answers("number", [f"add {ratio}" for ratio in ratios] + [f"chance 2 {ratio}" for ratio in ratios])
        self.assert_answers("number", ["share 2", "share 3/2", "share 1/1001", "share 1000/1001", "share 9999"])
        self.assert_answers("number", ["drop 3", "drop 9999", "chance 3 1/2", "chance 9999 1/3"])
        self.assert_answers("number", ["drop 0"], Chances(HALF))
        self.assert_answers("number", ["add 1/2", "add 2"], Chances(*[HALF] * 8))

    def test_nothing(self):
        self.assertEqual(console(THREE, HALF, ["undo", "undo", "most"]), ["nothing", "nothing", "27/32"])
        lines = ["share 1/5", "undo", "undo", "share 1/5", "share x", "share 2", "undo", "undo"]
        answers = ["done", "done", "nothing", "done", "form", "number", "done", "nothing"]
        self.assertEqual(console(THREE, HALF, lines), answers)


class ManyLinesTest(NumberTest):
    def draw_line(self, draw):
        ratio = f"{draw.randint(0, 5)}/{draw.randint(1, 5)}"
        return draw.choice([
            f"share {ratio}", f"chance {draw.randint(0, 4)} {ratio}", f"add {ratio}", f"add {ratio}",
            f"drop {draw.randint(0, 4)}", "undo", *ASKING,
        ])

    def change(self, store, words):
        """Do a change by the method that the document names, and tell the answer."""
        ratio = read_ratio(words[-1]) if words[0] != "undo" else None
        calls = {
            "share": lambda: store.set_share(ratio), "chance": lambda: store.set_chance(int(words[1]), ratio),
            "add": lambda: store.add_copy(ratio), "drop": lambda: store.drop_copy(int(words[1])), "undo": store.undo,
        }
        try:
            calls[words[0]]()
        except NothingToUndo:
            return "nothing"
        except VoteError:
            return "number"
        return "done"

    def test_drawn_lines_against_a_store(self):
        draw = random.Random(182)
        for _ in range(12):
            lines, answers, store = [self.draw_line(draw) for _ in range(40)], [], Store(THREE, HALF)
            for line in lines:
                if line in ASKING:
                    answers.append(expected(store.chances, store.share)[ASKING.index(line)])
                else:
                    answers.append(self.change(store, line.split(" ")))
            self.assertEqual(console(THREE, HALF, lines), answers)

    def test_families_of_one_lot(self):
        self.assertEqual(console(THREE, Ratio(1), ["writes", "reads"]), [lots_told(Family.whole(3)), "0 1 2"])

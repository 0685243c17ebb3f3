"""Points 38 and 39: the desk."""

import math
import random
import unittest

from made import GREAT_PRIMES, PRIMES, TWO, made, primes_with_times, shows_by_the_words
from rootpapers.desk import Desk
from rootpapers.errors import NoForm, NoNumber, NoPaper, NoText, RootError
from rootpapers.texts import read_paper

SIXTY = 10 ** 60
PRIME_SET = set(PRIMES)
SEVEN = "7:3(2*1, 3:2(2*1)*1)"
THIRTEEN = "13:2(2*2, 3:2(2*1)*1)"
ROWS = (
    ("paper 2", "2"), ("paper 3", "3:2(2*1)"), ("paper 7", SEVEN), ("paper 13", THIRTEEN), ("paper 0", "none 0"),
    ("paper 1", "none 0"), ("paper 4", "none 2"), ("paper 9", "none 3"), ("paper 91", "none 7"),
    ("paper 561", "none 3"), ("paper 499999", "none 31"),
    ("paper 479", "479:13(2*1, 239:7(2*1, 7:3(2*1, 3:2(2*1)*1)*1, 17:3(2*4)*1)*1)"), ("judge 2", "yes 2"),
    ("judge 3:2(2*1)", "yes 3"), ("judge " + SEVEN, "yes 7"), ("judge 7:5(2*1, 3:2(2*1)*1)", "yes 7"),
    ("judge 7:2(2*1, 3:2(2*1)*1)", "no"), ("judge 2:1()", "no"), ("judge 0:0()", "no"), ("judge 9:2(2*3)", "no"),
    ("judge 7:3(3:2(2*1)*1, 2*1)", "no"), ("judge 3:2(2*0)", "no"), ("judge 3:2(2*2)", "no"), ("judge 1:1()", "no"),
    ("parts 1", "1"), ("parts 2", "2^1"), ("parts 12", "2^2 3^1"), ("parts 360", "2^3 3^2 5^1"),
    ("parts 499979", "499979^1"), ("squares 0", "0 0"), ("squares 1", "0 1"), ("squares 2", "1 1"),
    ("squares 25", "0 5"), ("squares 50", "1 7"), ("squares 3", "bar 3 1"), ("squares 27", "bar 3 3"),
    ("squares 63", "bar 7 1"), ("squares 499979", "bar 499979 1"), ("primes 1 10", "2 3 5 7"), ("primes 0 0", "none"),
    ("primes 24 28", "none"), ("primes 7 7", "7"), ("primes 7 6", "none"), ("primes 100 0", "none"),
    ("primes 0 2", "2"), ("primes 499900 500000", "499903 499927 499943 499957 499969 499973 499979"),
    ("known 0", "unknown"), ("known 2", "unknown"), ("known " + "9" * 60, "unknown"),
)
NO_ROWS = (
    "", " ", "paper", "paper ", "paper  7", "paper 7 ", " paper 7", "paper 7 7", "paper 07", "paper 00", "paper -7",
    "paper +7", "paper 7.0", "paper 1e3", "paper 1_0", "paper x", "paper\t7", "papers 7", "Paper 7", "PAPER 7",
    "pape 7", "paper7", "7", "paper N", "judge", "Judge 2", "judges 2", "judge2", "judge:2", " judge 2", "keep",
    "keeps 2", "Keep 2", " keep 2", "keep2", "known", "known ", "known 02", "known 2 ", "known  2", "known 2 3",
    "known -2", "known x", "knows 2", "parts", "parts ", "parts 012", "parts 00", "parts -1", "parts 1 ", "parts  1",
    "parts 1 2", "part 1", "parts x", "squares", "squares ", "squares 025", "squares -25", "squares 25 ",
    "squares  25", "squares 3 4", "square 25", "primes", "primes ", "primes  ", "primes 1", "primes 1 ",
    "primes  1 2", "primes 1  2", "primes 1 2 ", "primes 1 2 3", "primes 01 2", "primes 1 02", "primes -1 2",
    "primes 1 -2", "primes 1,2", "primes x 2", "primes 1 x", "prime 1 2", "forget ", " forget", "forget 2",
    "forget 0", "Forget", "forgets", "forge", "forgetforget", "kept 0", "yes 2", "none", "say forget", "2",
    "3:2(2*1)", "help", "paper 7, 8", "paper 0x7", "parts", "~", "judge\t2", "keep,2", "paper 7;",
)
WITH_LINE_FEEDS = (
    "\n", "forget\n", "\nforget", "forget\nforget", "paper 7\n", "\npaper 7", "paper\n7", "paper 7\npaper 7",
    "paper 7\n\n", "known 2\n", "parts 12\n", "squares 25\n", "primes 1 10\n", "primes 1\n10", "judge 2\n",
    "judge\n2", "keep 2\n", "judge \n", "keep \n2", "keep 3:2(2*1)\n", "judge 7:3(2*1,\n3:2(2*1)*1)",
)
NO_KINDS = (
    None, True, False, 0, 7, -1, [], ["forget"], ("forget",), {}, {"forget": 1}, b"forget", 1.5, object(), Desk, str,
)
NO_TEXTS = (
    "", " ", " 2", "2 ", "3", "0", "02", "x", "3:2", "3:2(2*1", "3:2(2*1))", "3:2(2*1) ", "3:2(2*01)", "03:2(2*1)",
    "(" * 3990, "3:2(" * 990, "7:3(2*1,3:2(2*1)*1)", "7:3(2*1,  3:2(2*1)*1)", "2, 2", "2 2", "N", "-3:2(2*1)",
    "3:2(2*-1)", "forget", "3:2(" * 500 + "2" + "*1)" * 499,
)
# Papers that are read and are not let by.
NO_PAPERS = (
    "2:1()", "0:0()", "1:1()", "9:2(2*3)", "3:1(2*1)", "3:2()", "3:2(2*2)", "3:2(2*0)", "7:2(2*1, 3:2(2*1)*1)",
    "7:3(3:2(2*1)*1, 2*1)", "13:2(2*1, 2*1, 3:2(2*1)*1)", "13:2(2*2, 3:1(2*1)*1)", "13:15(2*2, 3:2(2*1)*1)",
    "561:2(2*4, 5:2(2*2)*1, 7:3(2*1, 3:2(2*1)*1)*1)",
)


def shown(paper):
    if paper == TWO:
        return "2"
    word, p, g, parts = paper
    return f"{p}:{g}(" + ", ".join(f"{shown(inner)}*{times}" for inner, times in parts) + ")"


def within(paper):
    if paper == TWO:
        return {2}
    return {paper[1]}.union(*[within(inner) for inner, times in paper[3]])


def paper_row(n):
    parts = primes_with_times(n) if n > 1 else [(0, 0)]
    return shown(made(n)) if parts == [(n, 1)] else f"none {parts[0][0]}"


def squares_row(n):
    if n > 0:
        for q, times in primes_with_times(n):
            if q % 4 == 3 and times % 2 == 1:
                return f"bar {q} {times}"
    a = next(a for a in range(n + 1) if math.isqrt(n - a * a) ** 2 == n - a * a)
    return f"{a} {math.isqrt(n - a * a)}"


def primes_row(low, high):
    return " ".join(str(n) for n in range(max(low, 2), high + 1) if primes_with_times(n) == [(n, 1)]) or "none"


class DeskCase(unittest.TestCase):
    def setUp(self):
        self.desk = Desk()

    def assert_says(self, row, due, desk=None):
        found = (desk or self.desk).say(row)
        self.assertIs(type(found), str)
        self.assertEqual(found, due, row)

    def assert_refused(self, refusal, row):
        with self.subTest(row=repr(row)[:60]):
            with self.assertRaises(RootError) as caught:
                self.desk.say(row)
            self.assertIs(type(caught.exception), refusal)


class Rows(DeskCase):
    def test_on_new_desks(self):
        for row, due in ROWS:
            self.assert_says(row, due, Desk())

    def test_on_the_same_desk_in_any_order(self):
        chance = random.Random(39)
        rows = list(ROWS) * 2
        for turn in range(3):
            chance.shuffle(rows)
            for row, due in rows:
                self.assert_says(row, due)

    def test_papers(self):
        for n in list(range(600)) + [499979, 499969, 500000, 499993, 110881, 409 * 1009, 101 * 103]:
            self.assert_says(f"paper {n}", paper_row(n))

    def test_a_written_paper_is_judged_and_kept(self):
        for p in PRIMES[:200] + [499979]:
            text = self.desk.say(f"paper {p}")
            self.assert_says("judge " + text, f"yes {p}")
            self.desk.say("keep " + text)
            self.assert_says(f"known {p}", "yes")

    def test_judge_of_great_papers(self):
        for p in GREAT_PRIMES:
            self.assert_says("judge " + shown(made(p)), f"yes {p}")

    def test_judge_of_papers_that_are_not_let_by(self):
        for text in NO_PAPERS:
            self.assertIs(shows_by_the_words(read_paper(text)), False)
            self.assert_says("judge " + text, "no")
        self.assert_says("judge " + "3:2(" * 500 + "2" + "*1)" * 500, "no")

    def test_parts(self):
        for n in list(range(2, 600)) + [499979, 500000, 2 ** 18, 3 ** 11, 409 * 1009, 701 * 709, 360360]:
            self.assert_says(f"parts {n}", " ".join(f"{p}^{t}" for p, t in primes_with_times(n)))

    def test_parts_of_nought(self):
        self.assert_refused(NoNumber, "parts 0")

    def test_squares(self):
        for n in list(range(600)) + [499979, 500000, 499981, 5 * 13 * 17 * 29, 2 ** 18, 3 ** 11, 3 ** 12, 701 ** 2]:
            self.assert_says(f"squares {n}", squares_row(n))

    def test_primes(self):
        for low, high in ((0, 100), (1, 1), (2, 2), (2, 3), (8, 10), (89, 97), (10, 5), (1327, 1361), (1328, 1360),
                          (499000, 499100), (31398, 31468), (99900, 100000)):
            self.assert_says(f"primes {low} {high}", primes_row(low, high))


class Kept(DeskCase):
    def test_numbers_within(self):
        self.assert_says("keep " + THIRTEEN, "kept 3")
        for n in range(20):
            self.assert_says(f"known {n}", "yes" if n in (2, 3, 13) else "unknown")

    def test_each_number_once(self):
        self.assert_says("keep 2", "kept 1")
        self.assert_says("keep 2", "kept 1")
        self.assert_says("keep " + SEVEN, "kept 3")
        self.assert_says("keep 3:2(2*1)", "kept 3")
        self.assert_says("keep " + THIRTEEN, "kept 4")
        self.assert_says("keep 7:5(2*1, 3:2(2*1)*1)", "kept 4")
        self.assert_says("keep 5:3(2*2)", "kept 5")

    def test_deep_down(self):
        paper = made(2879)
        self.assert_says("keep " + shown(paper), f"kept {len(within(paper))}")
        for n in range(3000):
            self.assert_says(f"known {n}", "yes" if n in within(paper) else "unknown")

    def test_great_papers(self):
        kept = set()
        for p in GREAT_PRIMES:
            kept |= within(made(p))
            self.assert_says("keep " + shown(made(p)), f"kept {len(kept)}")
        for n in kept:
            self.assert_says(f"known {n}", "yes")
            self.assert_says(f"known {n + 1}", "yes" if n + 1 in kept else "unknown")

    def test_forget(self):
        self.assert_says("forget", "kept 0")
        self.assert_says("keep " + SEVEN, "kept 3")
        self.assert_says("forget", "kept 0")
        for n in (2, 3, 7):
            self.assert_says(f"known {n}", "unknown")
        self.assert_says("forget", "kept 0")
        self.assert_says("keep 3:2(2*1)", "kept 2")
        self.assert_says("known 7", "unknown")

    def test_other_rows_keep_nothing(self):
        for row, due in ROWS:
            self.desk.say(row)
        self.assert_says("keep 2", "kept 1")
        self.assert_says("judge " + SEVEN, "yes 7")
        self.assert_says("paper 13", THIRTEEN)
        self.assert_says("keep 2", "kept 1")

    def test_desks_are_apart(self):
        other = Desk()
        self.assert_says("keep " + SEVEN, "kept 3")
        self.assert_says("known 7", "unknown", other)
        self.assert_says("keep 5:2(2*2)", "kept 2", other)
        self.assert_says("known 5", "unknown")
        self.assert_says("forget", "kept 0", other)
        self.assert_says("known 7", "yes")

    def test_a_paper_that_is_not_let_by(self):
        for text in NO_PAPERS:
            self.assert_refused(NoPaper, "keep " + text)
        self.assert_says("keep 2", "kept 1")
        self.assert_says("keep 3:2(2*1)", "kept 2")

    def test_a_paper_that_is_not_let_by_with_right_ones_within(self):
        self.assert_refused(NoPaper, "keep 7:2(2*1, 3:2(2*1)*1)")
        for n in (2, 3, 7):
            self.assert_says(f"known {n}", "unknown")
        self.assert_says("keep 5:2(2*2)", "kept 2")

    def test_rows_of_chance(self):
        chance = random.Random(40)
        kept = set()
        for turn in range(3000):
            p = chance.choice(PRIMES[:60])
            row = chance.choice(("keep", "known", "known", "known", "spoiled", "judge", "forget", "form", "text"))
            if row == "keep":
                kept |= within(made(p))
                self.assert_says("keep " + shown(made(p)), f"kept {len(kept)}")
            elif row == "known":
                n = chance.randrange(300)
                self.assert_says(f"known {n}", "yes" if n in kept else "unknown")
            elif row == "spoiled":
                self.assert_refused(NoPaper, "keep " + chance.choice(NO_PAPERS))
            elif row == "judge":
                self.assert_says("judge " + shown(made(p)), f"yes {p}")
            elif row == "forget" and chance.random() < 0.2:
                kept = set()
                self.assert_says("forget", "kept 0")
            elif row == "form":
                self.assert_refused(NoForm, chance.choice(NO_ROWS + WITH_LINE_FEEDS))
            elif row == "text":
                self.assert_refused(NoText, chance.choice(("keep ", "judge ")) + chance.choice(NO_TEXTS))


class Refused(DeskCase):
    def test_what_is_no_row(self):
        for row in NO_ROWS:
            self.assert_refused(NoForm, row)

    def test_line_feeds(self):
        for row in WITH_LINE_FEEDS:
            self.assert_refused(NoForm, row)
        for row, due in ROWS:
            self.assert_refused(NoForm, row + "\n")
            self.assert_refused(NoForm, "\n" + row)
            self.assert_refused(NoForm, row.replace(" ", "\n"))

    def test_other_kinds_of_things(self):
        for row in NO_KINDS:
            self.assert_refused(NoForm, row)

    def test_numbers_with_a_nought_ahead(self):
        for word in ("paper", "known", "parts", "squares"):
            for figures in ("00", "01", "007", "0" * 60, "000000000000000000001"):
                self.assert_refused(NoForm, f"{word} {figures}")
                self.assert_refused(NoForm, f"primes {figures} 9")
                self.assert_refused(NoForm, f"primes 0 {figures}")

    def test_signs_in_the_place_of_figures(self):
        for sign in [chr(k) for k in range(32, 127)] + ["\u00b2", "\u0663", "\u2460"]:
            if not "0" <= sign <= "9":
                for word in ("paper", "known", "parts", "squares", "primes 1"):
                    for figures in (sign, "7" + sign, sign + "7", "7" + sign + "7"):
                        self.assert_refused(NoForm, f"{word} {figures}")

    def test_a_text_that_writes_no_paper(self):
        for text in NO_TEXTS:
            for word in ("judge", "keep"):
                self.assert_refused(NoText, f"{word} {text}")

    def test_what_is_refused_changes_nothing(self):
        self.desk.say("keep " + SEVEN)
        for row in NO_ROWS + WITH_LINE_FEEDS + NO_KINDS + ("parts 0",):
            self.assertRaises(RootError, self.desk.say, row)
        for text in NO_TEXTS + NO_PAPERS:
            self.assertRaises(RootError, self.desk.say, "keep " + text)
        for n in range(30):
            self.assert_says(f"known {n}", "yes" if n in (2, 3, 7) else "unknown")
        self.assert_says("keep 2", "kept 3")

    def test_nothing_else_is_refused(self):
        for word in ("paper", "squares", "known"):
            self.desk.say(f"{word} 0")
        self.desk.say("primes 0 0")


if __name__ == "__main__":
    unittest.main()

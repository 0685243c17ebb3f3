"""Point 37: papers of primes written and read."""

import random
import re
import unittest

from made import (
    GREAT_PRIMES, PRIMES, PRIMES_TO_TWELFTH, TWO, assert_told_anew, assert_unchanged, kinds_in, lists_in, made)
from rootpapers.errors import NoText, RootError
from rootpapers.papers import paper_of
from rootpapers.texts import read_paper, show_paper

SIXTY = 10 ** 60
THREE = made(3)
FIGURES = re.compile(r"0|[1-9][0-9]*", re.ASCII)
SIGNS = "0123456789:()*, \n~+-x_."
KNOWN = (
    (TWO, "2"),
    (THREE, "3:2(2*1)"),
    (made(5), "5:2(2*2)"),
    (made(7), "7:3(2*1, 3:2(2*1)*1)"),
    (made(13), "13:2(2*2, 3:2(2*1)*1)"),
    (("root", 2, 1, []), "2:1()"),
    (("root", 0, 0, []), "0:0()"),
    (("root", 10, 20, [(TWO, 0)]), "10:20(2*0)"),
    (("root", 9, 2, [(("root", 4, 3, []), 200), (TWO, 1), (TWO, 1)]), "9:2(4:3()*200, 2*1, 2*1)"),
    (("root", SIXTY - 1, SIXTY // 10, [(TWO, 7)]), "9" * 60 + ":1" + "0" * 59 + "(2*7)"),
)
# What writes no paper, though each is near to one that does.
NONE = (
    "", " ", "\n", "0", "1", "3", "22", "02", "20", "2 ", " 2", "2\n", "\n2", "+2", "-2", "2.", "2*", "2*1", "2()",
    "2:", "2:1", "2:1(", "2:1)", "2:()", ":1()", "()", "(2)", "(2*1)", "2, 2", "2,2", "22:", "two", "x", "3:2(2*1",
    "3:2(2*1))", "3:2(2*1)*1", "3:2(2*1) ", " 3:2(2*1)", "3:2(2*1)\n", "\n3:2(2*1)", "3:2(2*1)2", "3:2(2*1)3:2(2*1)",
    "3 :2(2*1)", "3: 2(2*1)", "3:2 (2*1)", "3:2( 2*1)", "3:2(2 *1)", "3:2(2* 1)", "3:2(2*1 )", "3:2(2)", "3:2(2*)",
    "3:2(*1)", "3:2(2*1,)", "3:2(2*1, )", "3:2(, 2*1)", "3:2(,)", "3:2(, )", "3:2( )", "03:2(2*1)", "3:02(2*1)",
    "3:2(2*01)", "3:2(02*1)", "3:2(2*00)", "00:0()", "0:00()", "3:2(3*1)", "3:2(1*1)", "3:2[2*1]", "3;2(2*1)",
    "3:2(2^1)", "3:2(2*-1)", "-3:2(2*1)", "3:-2(2*1)", "+3:2(2*1)", "3:+2(2*1)", "3:2(2*+1)", "3:2(2*1.0)",
    "3:2(2*1e1)", "3_0:2(2*1)", "3:2(2*1_0)", "7:3(2*1,3:2(2*1)*1)", "7:3(2*1,  3:2(2*1)*1)", "7:3(2*1 , 3:2(2*1)*1)",
    "7:3(2*1 3:2(2*1)*1)", "7:3(2*1, 3:2(2*1))", "7:3(2*1, 3:2(2*1)*1", "7:3(2*1, 3:2(2*1*1)", "7:3(2*1, 3:2(2*1)*1))",
    "7:3(2*1, 3:2(2*1)*1, )", "7:3(2*1; 3:2(2*1)*1)", "7:3(2*1,\n3:2(2*1)*1)", "7:3(2*1,\t3:2(2*1)*1)",
    "7:3((2*1), 3:2(2*1)*1)", "7:3(2*1, (3:2(2*1)*1))", "3:2(2*1)(2*1)", "3:2:2(2*1)", "3:2(2*1*1)", "3:2()()",
    "P:G()", "3:2(2*1, 2*)", "3:2(2*1, 2)", "3:2(2*1, *1)", "3:2(2*1, 2*1", "None", "2:1()*1", "2:1(2)", "3,2(2*1)",
)


def shown_by_the_words(paper):
    if paper == TWO:
        return "2"
    word, p, g, parts = paper
    return f"{p}:{g}(" + ", ".join(f"{shown_by_the_words(inner)}*{times}" for inner, times in parts) + ")"


def read_by_the_words(text):
    """The paper, or None; this way of reading takes what stands innermost first."""
    papers = []

    def paper_in(piece):
        if piece == "2":
            return TWO
        held = re.fullmatch(r"<([0-9]+)>", piece)
        return papers[int(held[1])] if held else None

    def taken(match):
        parts = []
        for piece in match[3].split(", ") if match[3] else []:
            ahead, star, times = piece.rpartition("*")
            if not star or not FIGURES.fullmatch(times) or paper_in(ahead) is None:
                return "!"
            parts.append((paper_in(ahead), int(times)))
        papers.append(("root", int(match[1]), int(match[2]), parts))
        return f"<{len(papers) - 1}>"

    if re.search(r"[<>!]", text):
        return None
    innermost = re.compile(r"(?<![0-9])(0|[1-9][0-9]*):(0|[1-9][0-9]*)\(([^()]*)\)", re.ASCII)
    while True:
        shorter = innermost.sub(taken, text, count=1)
        if shorter == text:
            return paper_in(text)
        text = shorter


def paper_of_chance(chance, depth):
    if depth == 0 or chance.random() < 0.3:
        return TWO
    parts = [(paper_of_chance(chance, depth - 1), chance.randrange(0, 201)) for k in range(chance.randrange(4))]
    return ("root", chance.choice((chance.randrange(30), chance.randrange(SIXTY))), chance.randrange(30), parts)


def chain(length):
    paper = TWO
    for k in range(length - 1):
        paper = ("root", 10 * k, k, [(TWO, 1)] * (k % 2) + [(paper, k)])
    return paper


class TextsCase(unittest.TestCase):
    def assert_same(self, found, paper):
        self.assertEqual(found, paper)
        self.assertEqual(kinds_in(found), kinds_in(paper))

    def assert_goes_round(self, paper):
        text = show_paper(paper)
        self.assertIs(type(text), str)
        self.assertEqual(text, shown_by_the_words(paper))
        self.assert_same(read_paper(text), paper)

    def assert_none(self, text):
        with self.subTest(text=text[:60]):
            self.assertRaises(NoText, read_paper, text)


class Written(TextsCase):
    def test_known(self):
        for paper, text in KNOWN:
            self.assertEqual(show_paper(paper), text)
            self.assert_same(read_paper(text), paper)

    def test_papers_that_are_let_by(self):
        for p in PRIMES[:300]:
            self.assert_goes_round(made(p))
            self.assert_goes_round(paper_of(p))
        for p in PRIMES_TO_TWELFTH:
            self.assert_goes_round(paper_of(p))
        for p in GREAT_PRIMES:
            self.assert_goes_round(made(p))

    def test_papers_that_are_not(self):
        chance = random.Random(37)
        for turn in range(1500):
            self.assert_goes_round(paper_of_chance(chance, chance.randrange(6)))

    def test_no_parts(self):
        for p in (0, 1, 2, 3, 10, SIXTY - 1):
            for g in (0, 1, 7, 10, SIXTY - 1):
                self.assertEqual(show_paper(("root", p, g, [])), f"{p}:{g}()")
                self.assert_goes_round(("root", p, g, []))

    def test_forty_within_one_another(self):
        for length in range(1, 42):
            self.assert_goes_round(chain(length))

    def test_two_hundred_papers(self):
        self.assert_goes_round(("root", 5, 2, [(TWO, k) for k in range(199)]))
        self.assert_goes_round(("root", 5, 2, [(THREE, 200)] * 99))

    def test_nothing_is_changed(self):
        for paper, text in KNOWN:
            assert_unchanged(self, show_paper, paper)


class Read(TextsCase):
    def test_what_writes_none(self):
        for text in NONE:
            self.assertIsNone(read_by_the_words(text), text)
            self.assert_none(text)

    def test_every_short_text(self):
        texts = [""]
        for length in range(5):
            texts = [text + sign for text in texts for sign in "02:()*, "]
            for text in texts:
                self.assert_read_as_due(text)

    def assert_read_as_due(self, text):
        due = read_by_the_words(text)
        try:
            found = read_paper(text)
        except NoText:
            found = None
        if found != due:
            self.fail(f"read_paper({text!r}): {found!r}, due {due!r}")

    def test_one_sign_otherwise(self):
        for paper in (TWO, THREE, made(7), made(13), made(31), ("root", 0, 10, [(("root", 4, 3, []), 20), (TWO, 0)])):
            text = shown_by_the_words(paper)
            for k in range(len(text) + 1):
                self.assert_read_as_due(text[:k] + text[k + 1:])
                self.assert_read_as_due(text[:k])
                self.assert_read_as_due(text[k:])
                for sign in SIGNS:
                    self.assert_read_as_due(text[:k] + sign + text[k:])
                    self.assert_read_as_due(text[:k] + sign + text[k + 1:])
                self.assert_read_as_due(text[:k] + text[k + 1:k + 2] + text[k:k + 1] + text[k + 2:])

    def test_texts_of_chance(self):
        chance = random.Random(38)
        for turn in range(4000):
            self.assert_read_as_due("".join(chance.choice("2222:()*, 01") for k in range(chance.randrange(12))))

    def test_every_sign_alone(self):
        for sign in [chr(k) for k in range(32, 127)] + ["\n"]:
            if sign != "2":
                self.assert_none(sign)
            self.assert_none("3:2(2*1)" + sign)
            self.assert_none(sign + ":2(2*1")

    def test_thousands_of_brackets(self):
        for text in ("(" * 4000, ")" * 4000, "()" * 2000, "3:2(" * 1000, "3:2(" * 999 + "3:2)", "3:2()" * 800,
                     "2" + "*1)" * 1300, "3:2(" * 570 + "2" + "*1)" * 569, "3:2(" * 569 + "2" + "*1)" * 570,
                     "3:2(" * 500 + "2*1" + ")" * 500, "3:2(" * 500 + ")" * 500, "3:2(2*1, " * 440, "2*1, " * 800):
            self.assert_none(text)

    def test_thousands_of_figures(self):
        for text in ("1" * 4000, "2" * 4000, "0" * 4000, "3:" + "1" * 3990, "3:2(2*" + "1" * 3990, "1" * 3990 + ":1(2"):
            self.assert_none(text)
        self.assert_same(read_paper("1" * 3900 + ":2()"), ("root", 10 ** 3900 // 9, 2, []))

    def test_many_parts(self):
        text = "3:2(" + ", ".join(["2*1"] * 799) + ")"
        self.assertLess(len(text), 4001)
        self.assert_same(read_paper(text), ("root", 3, 2, [(TWO, 1)] * 799))

    def test_only_no_text_is_raised(self):
        for text in NONE:
            try:
                read_paper(text)
            except RootError as error:
                self.assertIs(type(error), NoText)

    def test_told_anew_at_each_asking(self):
        for text in ("2", "2:1()", "3:2(2*1)", "7:3(2*1, 3:2(2*1)*1)", "9:2(3:2(2*1)*1, 3:2(2*1)*1)"):
            assert_told_anew(self, read_paper, text)
        found = lists_in(read_paper("9:2(3:2()*1, 3:2()*1)"))
        self.assertEqual(len({id(one) for one in found}), 3)


if __name__ == "__main__":
    unittest.main()

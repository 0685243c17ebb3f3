"""Point 4: what is promised over the whole program, and points 2 and 3 where they speak of all of it."""

import importlib
import inspect
import math
import random
import unittest

from made import PRIMES, PRIMES_TO_TWELFTH, TWO, made, primes_with_times
from rootpapers.desk import Desk
from rootpapers.errors import IsPrime, NoPrime, RootError
from rootpapers.halves import half_of, half_shows
from rootpapers.judged import is_prime
from rootpapers.others import least_base, none_by_base, none_of, none_shows, told_of
from rootpapers.papers import paper_number, paper_of, paper_shows
from rootpapers.parts import parts_of, parts_shown
from rootpapers.stretches import primes_in, stretch_shows, stretch_told
from rootpapers.sums import all_sums, bar_shows, count_sums, sum_told
from rootpapers.texts import read_paper, show_paper

PRIME_SET = set(PRIMES)
TOP = 2500
# All names of the interface, with their arguments.
INTERFACE = {
    "powers": {
        "common_of": "a b", "common_with": "a b", "power_by": "base exponent n", "inverse_by": "a n", "whole_root": "n",
        "two_rests": "a m b n"},
    "judged": {"is_prime": "n", "least_part": "n", "stands": "n a"},
    "papers": {
        "paper_number": "paper", "paper_shows": "paper", "papers_within": "paper", "paper_depth": "paper",
        "paper_of": "p"},
    "halves": {"half_shows": "half", "half_of": "p"},
    "others": {"none_shows": "n paper", "none_of": "n", "told_of": "n", "least_base": "n", "none_by_base": "n"},
    "parts": {
        "parts_of": "n", "parts_shown": "n", "divisors_of": "n", "divisors_sum": "n", "apart_from": "n",
        "order_by": "a n", "least_root": "p", "root_by": "n"},
    "squares": {"sign_by": "a p", "sign_of": "a n", "roots_by": "a p", "logarithm": "a g p"},
    "sums": {
        "all_sums": "n", "sum_told": "n", "bar_shows": "n bar", "root_below": "p", "way_down": "p", "sum_of_prime": "p",
        "count_sums": "n", "four_squares": "n"},
    "stretches": {
        "primes_in": "low high", "count_primes": "n", "prime_at": "k", "next_prime": "n", "last_prime": "n",
        "stretch_told": "low high", "stretch_shows": "low high stretch"},
    "texts": {"show_paper": "paper", "read_paper": "text"},
}


def numbers_of_chance(seed, count, top):
    chance = random.Random(seed)
    return [chance.randrange(2, top) for turn in range(count)]


class Interface(unittest.TestCase):
    def test_every_name_is_there(self):
        for stem, names in INTERFACE.items():
            module = importlib.import_module("rootpapers." + stem)
            for name, arguments in names.items():
                with self.subTest(name=name):
                    self.assertEqual(list(inspect.signature(getattr(module, name)).parameters), arguments.split())
        self.assertEqual(list(inspect.signature(Desk).parameters), [])
        self.assertEqual(list(inspect.signature(Desk.say).parameters), ["self", "row"])


class JustOne(unittest.TestCase):
    """A paper of a prime or a paper of none, and it is let by."""

    def assert_just_one(self, n, prime):
        word, paper = told_of(n)
        self.assertEqual(word, "prime" if prime else "none")
        if prime:
            self.assertIs(paper_shows(paper), True)
            self.assertEqual(paper_number(paper), n)
            self.assertEqual(paper, paper_of(n))
            self.assertRaises(IsPrime, none_of, n)
        else:
            self.assertIs(none_shows(n, paper), True)
            self.assertEqual(paper, none_of(n))
            self.assertRaises(NoPrime, paper_of, n)

    def test_small_numbers(self):
        for n in range(2, TOP):
            self.assert_just_one(n, n in PRIME_SET)

    def test_numbers_below_ten_to_the_twelfth(self):
        for n in PRIMES_TO_TWELFTH:
            self.assert_just_one(n, True)
        # With a small part, so that they are taken apart fast.
        for n in numbers_of_chance(4, 100, 10 ** 10):
            self.assert_just_one(35 * n, False)
        for n in numbers_of_chance(5, 60, 10 ** 6):
            self.assert_just_one(n, primes_with_times(n) == [(n, 1)])

    def test_both_ways_of_none(self):
        for n in range(9, TOP, 2):
            if n not in PRIME_SET:
                self.assertIs(none_shows(n, none_by_base(n)), True)
                self.assertGreater(least_base(n), 1)


class WhateverIsLetBy(unittest.TestCase):
    """Whoever made a paper: where it is let by, its number is so."""

    def test_papers_of_primes(self):
        primes = [made(p) for p in PRIMES[:6]]
        forged = [("root", 4, 3, [(made(3), 1)]), ("root", 9, 2, [(TWO, 3)]), ("root", 1, 1, [])]
        seen = set()
        chance = random.Random(6)
        for turn in range(30000):
            n = chance.randrange(-2, 120)
            parts = [(inner, chance.randrange(1, 3)) for inner in primes if chance.random() < 0.4]
            if chance.random() < 0.2:
                parts.append((chance.choice(forged), 1))
            if n > 2 and chance.random() < 0.6:
                parts = [(made(q), times) for q, times in primes_with_times(n - 1)]
            paper = ("root", n, chance.randrange(max(n, 2)), parts)
            if paper_shows(paper):
                seen.add(n)
                self.assertIn(n, PRIME_SET)
        self.assertGreater(len(seen), 25)

    def test_half_papers(self):
        seen = set()
        for n in range(-2, 400):
            for q, times in primes_with_times(n - 1) if n > 2 else [(2, 1)]:
                for base in range(-3, 12):
                    for often in range(1, times + 1):
                        if half_shows((n, [(made(q), often, base)])):
                            seen.add(n)
                            self.assertIn(n, PRIME_SET)
        self.assertGreater(len(seen), 40)
        for p in PRIMES[1:200]:
            self.assertIs(half_shows(half_of(p)), True)

    def test_papers_of_none(self):
        seen = set()
        for n in range(-5, 150):
            for paper in [("small",)] + [(word, k) for word in ("part", "power", "turn") for k in range(-2, n + 3)]:
                if none_shows(n, paper):
                    seen.add(n)
                    self.assertNotIn(n, PRIME_SET)
        self.assertEqual(seen, {n for n in range(-5, 150) if n not in PRIME_SET})

    def test_bars(self):
        seen = set()
        for n in range(-5, 400):
            for q in PRIMES[:80]:
                for times in range(-1, 7):
                    if bar_shows(n, ("bar", made(q), times)):
                        seen.add(n)
                        self.assertEqual(all_sums(n), [])
        self.assertEqual(seen, {n for n in range(400) if not all_sums(n)})


class Products(unittest.TestCase):
    def test_every_number_is_the_product_of_its_papers_numbers(self):
        for n in list(range(1, TOP)) + [35 * n for n in numbers_of_chance(7, 60, 10 ** 8)]:
            found = parts_shown(n)
            self.assertEqual([(paper_number(paper), times) for paper, times in found], parts_of(n))
            self.assertEqual(math.prod(paper_number(paper) ** times for paper, times in found), n)
            for paper, times in found:
                self.assertIs(paper_shows(paper), True)


class SumOrBar(unittest.TestCase):
    def test_just_one(self):
        for n in list(range(TOP)) + numbers_of_chance(8, 60, 3 * 10 ** 8):
            told = sum_told(n)
            sums = all_sums(n)
            if told[0] == "sum":
                self.assertEqual(told, ("sum", sums[0]))
                self.assertEqual({a * a + b * b for a, b in sums}, {n})
            else:
                self.assertEqual(told[0], "bar")
                self.assertIs(bar_shows(n, told), True)
                self.assertEqual(sums, [])
            if n > 0:
                self.assertEqual(count_sums(n) == 0, sums == [])


class Stretches(unittest.TestCase):
    def test_all_primes_and_each_other_number_with_a_part(self):
        for low, high in ((-20, 179), (180, 379), (5000, 5199), (9999800, 9999999), (31390, 31470)):
            told = stretch_told(low, high)
            self.assertIs(stretch_shows(low, high, told), True)
            self.assertEqual([n for n, word, thing in told if word == "prime"], primes_in(low, high))
            for n, word, thing in told:
                self.assertEqual(word == "prime", is_prime(n))
                if word == "part":
                    self.assertIs(none_shows(n, ("part", thing)), True)
                    self.assertEqual(none_of(n), ("part", thing))
                elif word == "prime":
                    self.assertEqual(thing, paper_of(n)[2] if n > 2 else 1)
                else:
                    self.assertEqual(none_of(n), ("small",))


class DeskAndStages(unittest.TestCase):
    def test_the_desk_tells_what_the_stages_tell(self):
        desk = Desk()
        for n in list(range(1, 400)) + numbers_of_chance(9, 40, 500000):
            word, paper = told_of(n)
            if word == "prime":
                self.assertEqual(desk.say(f"paper {n}"), show_paper(paper))
                self.assertEqual(read_paper(desk.say(f"paper {n}")), paper)
            else:
                self.assertEqual(desk.say(f"paper {n}"), f"none {paper[1] if n > 1 else 0}")
            told = sum_told(n)
            due = "{} {}".format(*told[1]) if told[0] == "sum" else f"bar {paper_number(told[1])} {told[2]}"
            self.assertEqual(desk.say(f"squares {n}"), due)
            if n > 1:
                self.assertEqual(desk.say(f"parts {n}"), " ".join(f"{p}^{t}" for p, t in parts_of(n)))


class Refusals(unittest.TestCase):
    def test_each_is_of_one_class_alone(self):
        errors = importlib.import_module("rootpapers.errors")
        names = ("NoNumber", "NoInverse", "NoPrime", "IsPrime", "NoRoot", "NoPaper", "NoText", "NoForm")
        for name in names:
            one = getattr(errors, name)
            self.assertEqual(one.__bases__, (RootError,))
            for other in names:
                self.assertEqual(issubclass(one, getattr(errors, other)), name == other)


if __name__ == "__main__":
    unittest.main()

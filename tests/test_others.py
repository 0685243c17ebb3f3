"""Points 18 to 21: papers of none, judged and found."""

import random
import unittest

from made import (
    GREAT_PRIMES, NO_PRIMES, PRIMES, PRIMES_TO_TWELFTH, TOP, assert_told_anew, assert_unchanged, made,
    primes_with_times, shows_by_the_words)
from rootpapers.errors import IsPrime, NoNumber
from rootpapers.others import least_base, none_by_base, none_of, none_shows, told_of
from rootpapers.papers import paper_shows

SIXTY = 10 ** 60
PRIME_SET = set(PRIMES)
WORDS = ("part", "power", "turn")
CARMICHAELS = (561, 1105, 1729, 2465, 2821, 6601, 8911, 41041, 825265, 321197185, 5394826801, 232250619601)
STAND_TWO = (2047, 3277, 4033, 4681, 8321, 15841, 29341, 42799, 49141, 52633, 65281, 74665, 80581, 85489, 88357)
STAND_TWO_AND_THREE = (1373653, 1530787, 1987021, 2284453, 3116107, 5173601, 6787327, 11541307, 13694761, 15978007)
GREAT_NONE = (
    SIXTY - 1, (2 ** 89 - 1) * (2 ** 107 - 1), (2 ** 89 - 1) ** 2, 3 * (2 ** 127 - 1), 2 ** 199, 10 ** 59 + 1,
    (3 * 2 ** 66 + 1) * (2 ** 89 - 1))


def none_by_the_words(n, paper):
    if paper == ("small",):
        return n < 2
    word, number = paper
    if n <= 3:
        return False
    if word == "part":
        return 1 < number < n and n % number == 0
    if not 2 <= number <= n - 2:
        return False
    return pow(number, n - 1, n) != 1 if word == "power" else number ** 2 % n == 1


def powers_by_the_words(n, a):
    """The power of a by the odd d and its squares, as many as there are twos in n less 1, and one more."""
    odd, twos = n - 1, 0
    while odd % 2 == 0:
        odd, twos = odd // 2, twos + 1
    return [pow(a, odd * 2 ** k, n) for k in range(twos + 1)]


def stood(n, a):
    powers = powers_by_the_words(n, a)
    return powers[0] == 1 or n - 1 in powers[:-1]


def base_by_the_words(n):
    return next(a for a in range(2, n - 1) if not stood(n, a))


def none_by_base_by_the_words(n):
    a = base_by_the_words(n)
    powers = powers_by_the_words(n, a)
    if powers[-1] != 1:
        return ("power", a)
    return ("turn", powers[powers.index(1) - 1])


class NoneShows(unittest.TestCase):
    def assert_judged(self, n, paper, due):
        self.assertIs(none_shows(n, paper), due, (n, paper))

    def test_small_just_below_two(self):
        for n in range(-200, 200):
            self.assert_judged(n, ("small",), n < 2)
        for n in (1 - SIXTY, -(2 ** 127 - 1)):
            self.assert_judged(n, ("small",), True)
        for n in (2 ** 127 - 1, SIXTY - 1):
            self.assert_judged(n, ("small",), False)

    def test_the_others_never_where_n_is_not_above_three(self):
        for n in list(range(-30, 4)) + [-561, -1105, 1 - SIXTY]:
            for word in WORDS:
                for number in list(range(-35, 36)) + [n - 2, n - 1, n, n + 1, SIXTY - 1]:
                    self.assert_judged(n, (word, number), False)

    def test_all_numbers_about_small_ones(self):
        for n in range(4, 130):
            for word in WORDS:
                for number in range(-n - 3, 2 * n + 4):
                    self.assert_judged(n, (word, number), none_by_the_words(n, (word, number)))

    def test_parts(self):
        for n, part in ((4, 2), (9, 3), (15, 3), (15, 5), (91, 7), (91, 13), (SIXTY - 1, 3), (SIXTY - 1, 10 ** 30 - 1)):
            self.assert_judged(n, ("part", part), True)
            for wrong in (-part, 1, -1, n, -n, 0, n + part, 2 * n, n - 1, n - part + 1):
                self.assert_judged(n, ("part", wrong), False)

    def test_powers(self):
        self.assert_judged(4, ("power", 2), True)
        self.assert_judged(9, ("power", 2), True)
        self.assert_judged(561, ("power", 2), False)
        self.assert_judged(561, ("power", 3), True)
        self.assert_judged(341, ("power", 2), False)
        self.assert_judged(341, ("power", 3), True)
        # The power is another than 1 of all but the last of these, yet they lie outside.
        for n in (9, 15, 341, 561, SIXTY - 1):
            for wrong in (0, -1, -2, -3, n, n + 2, n + 3, 2 * n, 1, n + 1):
                self.assert_judged(n, ("power", wrong), False)
        # By an even number the power of n less 1 is n less 1, and that lies outside, too.
        for n in (4, 6, 8, 100, 2 ** 199):
            self.assertEqual(pow(n - 1, n - 1, n), n - 1)
            self.assert_judged(n, ("power", n - 1), False)
            self.assert_judged(n, ("power", n - 2), True)

    def test_turns(self):
        for n, turn in ((8, 3), (8, 5), (15, 4), (15, 11), (561, 67), (1105, 781), (SIXTY, SIXTY // 2 + 1)):
            self.assert_judged(n, ("turn", turn), True)
            self.assert_judged(n, ("turn", n - turn), True)
            for wrong in (1, n - 1, 0, n, -1, turn - n, turn + n, -turn, n + 1, turn + 1):
                self.assert_judged(n, ("turn", wrong), False)

    def test_of_primes_never_true(self):
        for n in PRIMES[2:40]:
            for word in WORDS:
                for number in range(-2, n + 3):
                    self.assert_judged(n, (word, number), False)
        chance = random.Random(18)
        for n in list(GREAT_PRIMES) + list(PRIMES_TO_TWELFTH):
            for word in WORDS:
                for number in (0, 1, 2, 3, n - 2, n - 1, n, n + 1, chance.randrange(2, n - 1), chance.randrange(n * n)):
                    self.assert_judged(n, (word, number), False)

    def test_great_numbers_that_are_none(self):
        chance = random.Random(19)
        for n in GREAT_NONE:
            for word in WORDS:
                for number in (2, 3, 5, n - 2, 10 ** 30 - 1, 2 ** 89 - 1, 2 ** 107 - 1, chance.randrange(2, n - 1)):
                    self.assert_judged(n, (word, number), none_by_the_words(n, (word, number)))
            self.assert_judged(-n, ("part", 3), False)

    def test_numbers_of_chance(self):
        chance = random.Random(20)
        seen = {(word, due): 0 for word in WORDS for due in (True, False)}
        for turn in range(6000):
            n = chance.choice((chance.randrange(-20, 100), chance.choice(CARMICHAELS), chance.randrange(SIXTY)))
            near = n - chance.randrange(-3, 4)
            number = chance.choice((chance.randrange(-5, 50), chance.randrange(abs(n) + 5), near))
            word = chance.choice(WORDS)
            due = none_by_the_words(n, (word, number))
            seen[(word, due)] += 1
            self.assert_judged(n, (word, number), due)
        self.assertGreater(min(seen.values()), 5, seen)

    def test_nothing_is_changed(self):
        for paper in (("small",), ("part", 5), ("power", 2), ("turn", 4)):
            assert_unchanged(self, lambda thing: none_shows(15, thing), paper)


class NoneOf(unittest.TestCase):
    def test_below_two(self):
        for n in (1, 0, -1, -2, -3, -7, -999999999989, 1 - 10 ** 12):
            self.assertEqual(none_of(n), ("small",))

    def test_every_small_number(self):
        for n in range(-100, 4000):
            if n in PRIME_SET:
                self.assertRaises(IsPrime, none_of, n)
            else:
                due = ("small",) if n < 2 else ("part", primes_with_times(n)[0][0])
                self.assertEqual(none_of(n), due)
                self.assertIs(type(none_of(n)), tuple)
                self.assertIs(none_shows(n, due), True)

    def test_great_numbers(self):
        for n in CARMICHAELS + STAND_TWO + STAND_TWO_AND_THREE + NO_PRIMES:
            if n > 1:
                self.assertEqual(none_of(n), ("part", primes_with_times(n)[0][0]))
                self.assertIs(none_shows(n, none_of(n)), True)

    def test_refuses_primes(self):
        for p in [2, 3, 5] + list(PRIMES_TO_TWELFTH):
            with self.subTest(p=p):
                self.assertRaises(IsPrime, none_of, p)


class ToldOf(unittest.TestCase):
    def assert_told(self, n, prime):
        found = told_of(n)
        self.assertIs(type(found), tuple)
        if prime:
            self.assertEqual(found, ("prime", made(n)))
            self.assertIs(paper_shows(found[1]), True)
            self.assertIs(shows_by_the_words(found[1]), True)
        else:
            due = ("small",) if n < 2 else ("part", primes_with_times(n)[0][0])
            self.assertEqual(found, ("none", due))
            self.assertIs(none_shows(n, found[1]), True)

    def test_every_small_number(self):
        for n in range(-50, 3000):
            self.assert_told(n, n in PRIME_SET)

    def test_numbers_below_ten_to_the_twelfth(self):
        for n in PRIMES_TO_TWELFTH:
            self.assert_told(n, True)
        for n in NO_PRIMES + CARMICHAELS:
            self.assert_told(n, False)

    def test_told_anew_at_each_asking(self):
        for n in (2, 7, 191, 2311, 15, 1, 999999999989):
            assert_told_anew(self, told_of, n)


class ByBase(unittest.TestCase):
    def assert_by_base(self, n):
        base, paper = least_base(n), none_by_base(n)
        self.assertIs(type(base), int)
        self.assertIs(type(paper), tuple)
        self.assertEqual(base, base_by_the_words(n))
        self.assertEqual(paper, none_by_base_by_the_words(n))
        self.assertIs(none_shows(n, paper), True)
        return base, paper

    def test_known(self):
        self.assertEqual(self.assert_by_base(9), (2, ("power", 2)))
        self.assertEqual(self.assert_by_base(15), (2, ("power", 2)))
        self.assertEqual(self.assert_by_base(341), (2, ("turn", 32)))
        self.assertEqual(self.assert_by_base(561), (2, ("turn", 67)))
        self.assertEqual(self.assert_by_base(1105), (2, ("turn", 781)))
        self.assertEqual(self.assert_by_base(2047), (3, ("power", 3)))

    def test_every_small_number(self):
        words = set()
        for n in range(9, TOP, 2):
            if n not in PRIME_SET:
                words.add(self.assert_by_base(n)[1][0])
        self.assertEqual(words, {"power", "turn"})

    def test_numbers_that_stand_two(self):
        for n in STAND_TWO:
            self.assertEqual(self.assert_by_base(n)[0], 3)
        for n in STAND_TWO_AND_THREE[:5]:
            self.assertGreater(self.assert_by_base(n)[0], 4)

    def test_numbers_that_stand_two_and_three(self):
        for n in STAND_TWO_AND_THREE + (25326001, 3215031751):
            self.assertGreater(self.assert_by_base(n)[0], 4)
        self.assertEqual(least_base(3215031751), 11)

    def test_turns_by_three_and_more(self):
        for n, base in ((15841, 3), (29341, 3), (52633, 3), (3215031751, 11)):
            self.assertEqual(self.assert_by_base(n)[0], base)
            self.assertEqual(none_by_base(n)[0], "turn")

    def test_turns_with_many_squarings(self):
        # The numbers ahead of these have many twos, so that the turn is far from the first power.
        seen = set()
        for n in CARMICHAELS + (65, 4369, 16843009, 4294967297, 1194649, 12327121):
            base, paper = self.assert_by_base(n)
            if paper[0] == "turn":
                seen.add(powers_by_the_words(n, base).index(paper[1]))
        self.assertGreater(len(seen), 2)
        self.assertGreater(max(seen), 2)

    def test_numbers_below_ten_to_the_twelfth(self):
        for n in CARMICHAELS + (999983 * 999979, 999983 ** 2, 10 ** 12 - 1, 101987 * 101999, 999999999987):
            self.assert_by_base(n)

    def test_refuses_primes(self):
        for p in PRIMES[:500] + list(PRIMES_TO_TWELFTH):
            for asked in (least_base, none_by_base):
                with self.subTest(p=p, asked=asked.__name__):
                    self.assertRaises(IsPrime, asked, p)

    def test_refuses_other_numbers(self):
        even = list(range(4, 300, 2)) + [2 ** 39, 10 ** 12 - 2, 999999999988]
        low = [1, 0] + list(range(-60, 0)) + [-561, -2047, -999999999989]
        for n in even + low:
            for asked in (least_base, none_by_base):
                with self.subTest(n=n, asked=asked.__name__):
                    self.assertRaises(NoNumber, asked, n)


class JustOne(unittest.TestCase):
    """Of point 4: a number is shown to be a prime or to be none, and never both."""

    def test_no_paper_of_none_for_a_number_with_a_paper(self):
        for n in range(2, 1200):
            word, paper = told_of(n)
            if word == "prime":
                self.assertIs(paper_shows(paper), True)
                self.assertRaises(IsPrime, none_of, n)
            else:
                self.assertIs(none_shows(n, paper), True)
                self.assertFalse(any(none_shows(p, paper) for p in PRIMES[:30]))


if __name__ == "__main__":
    unittest.main()

"""Points 29 to 33: sums of two squares and what bars them, sums of four."""

import math
import random
import unittest

from made import (
    NO_PRIMES, PRIMES, TWO, assert_told_anew, assert_unchanged, kinds_in, made, primes_with_times, shows_by_the_words)
from rootpapers.errors import NoNumber, NoPrime
from rootpapers.sums import (
    all_sums, bar_shows, count_sums, four_squares, root_below, sum_of_prime, sum_told, way_down)

SIXTY = 10 ** 60
BELOW = (-1, -2, -3, -5, -25, -10 ** 8, -299999999)
PRIME_SET = set(PRIMES)
# Products of primes that leave 1 by 4 have many sums, those with primes that leave 3 but once have none.
GREAT_NUMBERS = (
    99999989, 99999988, 99999999, 10 ** 8 - 4, 5 * 13 * 17 * 29 * 37 * 41, 2 * 9 * 5 ** 2 * 13 ** 2 * 17, 5 ** 11,
    2 ** 26, 3 ** 16, 3 ** 15, 9973 ** 2, 7 ** 8 * 13, 7 ** 9, 49 * 9 * 5 * 13, 9999 ** 2, 10000 ** 2 - 1,
)
GREATER_NUMBERS = (
    299999977, 299999999, 3 * 10 ** 8 - 2, 2 ** 28, 3 ** 17, 17 ** 6, 17321 ** 2 - 1, 14143 ** 2, 2 * 10 ** 8)
# Primes that leave 1 by 4, with the least root of -1 by each.
ROOTS_BELOW = ((5, 2), (13, 5), (17, 4), (29, 12), (37, 6), (41, 9), (65537, 256), (97, 22), (99999989, 33589498))
GREAT_ONES = (
    99999989, 99999941, 99999821, 99999773, 99999721, 50000017, 50000021, 786433, 65537, 40960001, 26214401, 23068673,
    7340033)


def sums_by_trying(n):
    found = []
    for a in range(math.isqrt(max(n, 0)) + 1):
        b = math.isqrt(n - a * a)
        if a <= b and a * a + b * b == n:
            found.append((a, b))
    return found


def bars_by_the_words(n):
    return [(q, times) for q, times in primes_with_times(n) if q % 4 == 3 and times % 2 == 1]


def bar_by_the_words(n, bar):
    word, paper, times = bar
    if n < 1 or not shows_by_the_words(paper):
        return False
    q = 2 if paper == TWO else paper[1]
    return q % 4 == 3 and times >= 1 and times % 2 == 1 and n % q ** times == 0 and n % q ** (times + 1) != 0


def four_by_trying(top):
    """For each number up to top the first tuple of four squares."""
    first = {}
    root = math.isqrt(top)
    for a in range(root + 1):
        for b in range(a, root + 1):
            for c in range(b, root + 1):
                if a * a + b * b + 2 * c * c > top:
                    break
                for d in range(c, root + 1):
                    first.setdefault(a * a + b * b + c * c + d * d, (a, b, c, d))
    return first


class AllSums(unittest.TestCase):
    def test_known(self):
        self.assertEqual(all_sums(0), [(0, 0)])
        self.assertEqual(all_sums(1), [(0, 1)])
        self.assertEqual(all_sums(2), [(1, 1)])
        self.assertEqual(all_sums(3), [])
        self.assertEqual(all_sums(25), [(0, 5), (3, 4)])
        self.assertEqual(all_sums(50), [(1, 7), (5, 5)])
        self.assertEqual(all_sums(325), [(1, 18), (6, 17), (10, 15)])

    def test_small_numbers(self):
        for n in range(3000):
            due = sums_by_trying(n)
            self.assertEqual(all_sums(n), due)
            self.assertEqual(kinds_in(all_sums(n)), kinds_in(due))

    def test_great_numbers(self):
        for n in GREAT_NUMBERS:
            self.assertEqual(all_sums(n), sums_by_trying(n))

    def test_told_anew_at_each_asking(self):
        for n in (0, 3, 25, 5 * 13 * 17 * 29):
            assert_told_anew(self, all_sums, n)

    def test_refuses_numbers_below_nought(self):
        for n in BELOW:
            self.assertRaises(NoNumber, all_sums, n)


class SumTold(unittest.TestCase):
    def assert_told(self, n):
        found = sum_told(n)
        bars = [] if n == 0 else bars_by_the_words(n)
        if bars:
            due = ("bar", made(bars[0][0]), bars[0][1])
            self.assertIs(bar_shows(n, found), True)
            self.assertEqual(sums_by_trying(n), [])
        else:
            due = ("sum", sums_by_trying(n)[0])
        self.assertEqual(found, due)
        self.assertEqual(kinds_in(found), kinds_in(due))

    def test_known(self):
        self.assertEqual(sum_told(0), ("sum", (0, 0)))
        self.assertEqual(sum_told(1), ("sum", (0, 1)))
        self.assertEqual(sum_told(50), ("sum", (1, 7)))
        self.assertEqual(sum_told(3), ("bar", ("root", 3, 2, [(TWO, 1)]), 1))
        self.assertEqual(sum_told(27 * 7), ("bar", made(3), 3))
        self.assertEqual(sum_told(9 * 7), ("bar", made(7), 1))
        self.assertEqual(sum_told(9 * 49 * 11 ** 3 * 19), ("bar", made(11), 3))

    def test_every_small_number(self):
        for n in range(3000):
            self.assert_told(n)

    def test_great_numbers(self):
        for n in GREAT_NUMBERS + GREATER_NUMBERS:
            self.assert_told(n)
        chance = random.Random(30)
        for turn in range(60):
            self.assert_told(chance.randrange(3 * 10 ** 8))

    def test_great_bars(self):
        for q in (9967, 999983, 99999971):
            self.assert_told(q)
            self.assert_told(2 * q)
        self.assert_told(9967 ** 2)

    def test_told_anew_at_each_asking(self):
        for n in (25, 3, 7 * 11, 99999999):
            assert_told_anew(self, sum_told, n)

    def test_refuses_numbers_below_nought(self):
        for n in BELOW:
            self.assertRaises(NoNumber, sum_told, n)


class BarShows(unittest.TestCase):
    def assert_judged(self, n, bar, due):
        self.assertIs(bar_shows(n, bar), due, (n, bar))

    def test_right_bars(self):
        for q in (3, 7, 11, 19, 23, 9967, 999983):
            for times in (1, 3, 5):
                if q ** times < 10 ** 11:
                    for left in (1, 2, 5, 12 if q > 3 else 4, 77 if q not in (7, 11) else 26):
                        self.assert_judged(q ** times * left, ("bar", made(q), times), True)

    def test_a_bar_that_is_not_the_least(self):
        self.assert_judged(3 * 7 * 11, ("bar", made(11), 1), True)
        self.assert_judged(9 * 7 ** 3, ("bar", made(7), 3), True)

    def test_another_root_in_the_paper(self):
        for g in range(-2, 13):
            bar = ("bar", ("root", 11, g, made(11)[3]), 1)
            self.assert_judged(22, bar, g in (2, 6, 7, 8))

    def test_the_paper_is_not_let_by(self):
        for paper in (("root", 3, 1, [(TWO, 1)]), ("root", 3, 2, []), ("root", 3, 2, [(TWO, 2)]),
                      ("root", 3, 5, [(TWO, 1)]), ("root", 3, 0, [(TWO, 1)])):
            self.assert_judged(3, ("bar", paper, 1), False)
        # 15 and 35 leave 3 by 4, divide and are no primes, nor are 1, 0, -1, -5 and 3 less than 0.
        for p in (15, 35, 1, 0, -1, -5, -3):
            for parts in ([], [(TWO, 1)], [(TWO, 1), (made(7), 1)], [(TWO, 1), (made(17), 1)]):
                for n in (15, 35, 1, 3, 0, -3, -5):
                    for times in (-1, 0, 1, 3):
                        self.assert_judged(n, ("bar", ("root", p, 2, parts), times), False)

    def test_its_number_leaves_another_rest(self):
        for q in (2, 5, 13, 17, 29, 97):
            for times in (1, 3):
                self.assert_judged(q ** times, ("bar", made(q), times), False)
                self.assert_judged(3 * q ** times, ("bar", made(q), times), False)

    def test_times_even_or_below_one(self):
        for times in (0, -1, -2, -3, 2, 4, -200, 200):
            for n in (1, 2, 9, 81, 5, 18, 3, 27):
                self.assert_judged(n, ("bar", made(3), times), False)

    def test_one_more_or_one_less_than_it_divides(self):
        for q in (3, 7, 19):
            for often in range(7):
                for times in range(-8, 9):
                    due = times == often and times % 2 == 1
                    self.assert_judged(2 * q ** often, ("bar", made(q), times), due)

    def test_nought_and_numbers_below(self):
        for n in (0, -1, -3, -7, -27, -21, 1 - 10 ** 11, -SIXTY):
            for q in (3, 7, 11):
                for times in (-1, 0, 1, 2, 3, 199):
                    self.assert_judged(n, ("bar", made(q), times), False)

    def test_great_numbers(self):
        self.assert_judged(999983 * 99989, ("bar", made(999983), 1), True)
        self.assert_judged(999983 * 99989, ("bar", made(99989), 1), False)
        self.assert_judged(999983 * 99988, ("bar", made(999983), 3), False)
        self.assert_judged(999979 * 99991, ("bar", made(99991), 1), True)
        self.assert_judged(3 ** 23, ("bar", made(3), 23), True)
        self.assert_judged(3 ** 22, ("bar", made(3), 22), False)

    def test_things_of_chance(self):
        chance = random.Random(31)
        papers = [made(p) for p in PRIMES[:12]]
        papers += [("root", 3, 1, [(TWO, 1)]), ("root", 15, 2, [(TWO, 1), (made(7), 1)])]
        seen = {True: 0, False: 0}
        for turn in range(8000):
            n = chance.choice((chance.randrange(-9, 200), 3 ** chance.randrange(6) * 7 ** chance.randrange(4) * 11))
            bar = ("bar", chance.choice(papers), chance.randrange(-3, 7))
            due = bar_by_the_words(n, bar)
            seen[due] += 1
            self.assert_judged(n, bar, due)
        self.assertGreater(min(seen.values()), 50)

    def test_a_number_with_a_bar_is_no_sum(self):
        for n in range(1, 700):
            barred = any(bar_shows(n, ("bar", made(q), times)) for q in PRIMES[:60] for times in (1, 3, 5)
                         if q <= n)
            self.assertEqual(barred, bool([one for one in bars_by_the_words(n) if one[0] <= PRIMES[59]]))
            self.assertFalse(barred and all_sums(n))

    def test_nothing_is_changed(self):
        for bar in (("bar", made(7), 1), ("bar", made(43), 3)):
            assert_unchanged(self, lambda thing: bar_shows(7, thing), bar)


class PrimesThatLeaveOne(unittest.TestCase):
    ones = [p for p in PRIMES if p % 4 == 1]

    def test_root_below(self):
        for p, root in ROOTS_BELOW:
            self.assertEqual(root_below(p), root)
            self.assertIs(type(root_below(p)), int)
        for p in self.ones[:150]:
            self.assertEqual(root_below(p), next(x for x in range(p) if x * x % p == p - 1))

    def test_root_below_is_the_lesser_one(self):
        for p in self.ones + list(GREAT_ONES):
            root = root_below(p)
            self.assertEqual(root * root % p, p - 1)
            self.assertTrue(0 < root < p - root)

    def test_way_down(self):
        self.assertEqual(way_down(5), [5, 2, 1, 0])
        self.assertEqual(way_down(13), [13, 5, 3, 2, 1, 0])
        self.assertEqual(way_down(17), [17, 4, 1, 0])
        self.assertEqual(way_down(29), [29, 12, 5, 2, 1, 0])
        for p in self.ones[:400] + [99999989]:
            way = way_down(p)
            self.assertIs(type(way), list)
            self.assertEqual(way[:2], [p, root_below(p)])
            self.assertEqual(way[2:], [a % b for a, b in zip(way, way[1:-1])])
            self.assertEqual(way[-1], 0)
            self.assertEqual(way.count(0), 1)

    def test_way_down_is_told_anew(self):
        for p in (5, 13, 99999989):
            assert_told_anew(self, way_down, p)

    def test_sum_of_prime(self):
        self.assertEqual(sum_of_prime(5), (1, 2))
        self.assertEqual(sum_of_prime(13), (2, 3))
        self.assertEqual(sum_of_prime(17), (1, 4))
        for p in self.ones + list(GREAT_ONES):
            found = sum_of_prime(p)
            self.assertIs(type(found), tuple)
            a, b = found
            self.assertTrue(0 < a < b)
            self.assertEqual(a * a + b * b, p)
        for p in self.ones[:200] + list(GREAT_ONES):
            self.assertEqual([sum_of_prime(p)], all_sums(p))

    def test_refuses_all_other_numbers(self):
        wrong = [p for p in PRIMES[:400] if p % 4 != 1] + [99999971, 2147483647] + list(NO_PRIMES)
        wrong += [n for n in range(-60, 1000) if n not in PRIME_SET] + [5 * 13, 25, 561, 1105, 99999985]
        for n in wrong:
            for asked in (root_below, way_down, sum_of_prime):
                with self.subTest(n=n, asked=asked.__name__):
                    self.assertRaises(NoPrime, asked, n)


class CountSums(unittest.TestCase):
    def test_known(self):
        for n, count in ((1, 4), (2, 4), (3, 0), (4, 4), (5, 8), (25, 12), (50, 12), (65, 16), (325, 24), (9, 4)):
            self.assertEqual(count_sums(n), count)
            self.assertIs(type(count_sums(n)), int)

    def test_small_numbers_by_trying(self):
        top = 1500
        root = math.isqrt(top)
        counts = [0] * (top + 1)
        for a in range(-root, root + 1):
            for b in range(-root, root + 1):
                if a * a + b * b <= top:
                    counts[a * a + b * b] += 1
        self.assertEqual([count_sums(n) for n in range(1, top + 1)], counts[1:])

    def test_great_numbers(self):
        for n in GREAT_NUMBERS + GREATER_NUMBERS:
            due = 0
            for a, b in sums_by_trying(n):
                due += (1 if a == 0 else 2) * 2 * (1 if a == b else 2)
            self.assertEqual(count_sums(n), due)

    def test_refuses_numbers_below_one(self):
        for n in (0,) + BELOW:
            self.assertRaises(NoNumber, count_sums, n)


class FourSquares(unittest.TestCase):
    def assert_four(self, n):
        found = four_squares(n)
        self.assertIs(type(found), tuple)
        self.assertEqual([type(root) for root in found], [int] * 4)
        self.assertEqual(list(found), sorted(found))
        self.assertGreaterEqual(found[0], 0)
        self.assertEqual(sum(root * root for root in found), n)
        return found

    def test_known(self):
        self.assertEqual(four_squares(0), (0, 0, 0, 0))
        self.assertEqual(four_squares(1), (0, 0, 0, 1))
        self.assertEqual(four_squares(4), (0, 0, 0, 2))
        self.assertEqual(four_squares(7), (1, 1, 1, 2))
        self.assertEqual(four_squares(8), (0, 0, 2, 2))
        self.assertEqual(four_squares(15), (1, 1, 2, 3))
        self.assertEqual(four_squares(28), (1, 1, 1, 5))
        self.assertEqual(four_squares(112), (2, 2, 2, 10))

    def test_the_first_of_every_small_number(self):
        first = four_by_trying(2500)
        for n in range(2501):
            self.assertEqual(self.assert_four(n), first[n])

    def test_the_first_of_great_numbers(self):
        for n in (99999, 99991, 7 * 4 ** 6, 14 * 4 ** 6, 6 * 4 ** 6, 2 ** 16, 98383, 65535, 23 * 4 ** 5, 15 * 4 ** 6):
            found = self.assert_four(n)
            self.assertEqual(found, self.first_by_trying(n))

    def first_by_trying(self, n):
        squares = {root * root: root for root in range(math.isqrt(n) + 1)}
        for a in range(math.isqrt(n // 4) + 1):
            for b in range(a, math.isqrt((n - a * a) // 3) + 1):
                left = n - a * a - b * b
                for c in range(b, math.isqrt(left // 2) + 1):
                    if left - c * c in squares:
                        return (a, b, c, squares[left - c * c])

    def test_numbers_below_a_hundred_thousand(self):
        for n in range(0, 100000, 101):
            self.assert_four(n)

    def test_refuses_numbers_below_nought(self):
        for n in BELOW:
            self.assertRaises(NoNumber, four_squares, n)


if __name__ == "__main__":
    unittest.main()

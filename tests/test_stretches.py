"""Points 34 to 36: the primes of a stretch, and stretches told and judged."""

import bisect
import math
import random
import unittest

from made import assert_told_anew, assert_unchanged, is_root, kinds_in, primes_with_times, sieved
from rootpapers.errors import NoNumber
from rootpapers.stretches import (
    count_primes, last_prime, next_prime, prime_at, primes_in, stretch_shows, stretch_told)

PRIMES = sieved(240000)
PRIME_SET = set(PRIMES)
SIXTY = 10 ** 60
TWELFTH = 10 ** 12
# The primes about ten to the twelfth.
ABOUT_TWELFTH = [
    999999999937, 999999999959, 999999999961, 999999999989, 1000000000039, 1000000000061, 1000000000063, 1000000000091]
MILLIONS = 10 ** 7 + 100
STRETCHES = (
    (-5, 30), (0, 0), (1, 1), (2, 2), (3, 3), (4, 4), (-3, -3), (1, 2), (-3, 3), (2, 201), (24, 28), (89, 97),
    (550, 570), (7900, 8099), (40480, 40490), (110870, 110890), (9999900, 10000099), (MILLIONS - 30, MILLIONS - 1))


def stretch_by_the_words(low, high):
    rows = []
    for n in range(low, high + 1):
        parts = primes_with_times(n) if n > 1 else []
        if n < 2:
            rows.append((n, "small", 0))
        elif parts == [(n, 1)]:
            primes = [q for q, times in primes_with_times(n - 1)]
            rows.append((n, "prime", next(g for g in range(1, n) if is_root(g, n, primes))))
        else:
            rows.append((n, "part", parts[0][0]))
    return rows


def order_by_trying(a, n):
    power, exponent = a % n, 1
    while power != 1 % n:
        power, exponent = power * a % n, exponent + 1
    return exponent


def row_by_the_words(n, row):
    number, word, thing = row
    if number != n:
        return False
    if n < 2 or word == "small":
        return n < 2 and word == "small" and thing == 0
    if word == "prime":
        return 1 <= thing <= n - 1 and math.gcd(thing, n) == 1 and order_by_trying(thing, n) == n - 1
    return word == "part" and 1 < thing < n and n % thing == 0


class PrimesIn(unittest.TestCase):
    def assert_primes(self, low, high, due):
        found = primes_in(low, high)
        self.assertEqual(found, due)
        self.assertIs(type(found), list)

    def test_known(self):
        self.assert_primes(1, 20, [2, 3, 5, 7, 11, 13, 17, 19])
        self.assert_primes(24, 28, [])
        self.assert_primes(2, 3, [2, 3])

    def test_both_ends_are_in_it(self):
        for p in PRIMES[:60] + [65537, 99991, 109987] + ABOUT_TWELFTH:
            self.assert_primes(p, p, [p])
            self.assert_primes(p + 1, p - 1, [])
            self.assertEqual(primes_in(p, p + 5)[0], p)
            self.assertEqual(primes_in(p - 5, p)[-1], p)
            self.assertNotIn(p, primes_in(p + 1, p + 9))
            self.assertNotIn(p, primes_in(p - 9, p - 1))

    def test_all_small_stretches(self):
        for low in range(-6, 45):
            for high in range(-8, 50):
                self.assert_primes(low, high, [p for p in PRIMES[:20] if low <= p <= high])

    def test_low_below_nought(self):
        self.assert_primes(-100, -1, [])
        self.assert_primes(-100, 1, [])
        self.assert_primes(-100, 2, [2])
        self.assert_primes(-90000, 10000, [p for p in PRIMES if p <= 10000])
        self.assert_primes(-TWELFTH, -TWELFTH + 100, [])
        self.assert_primes(-99990, 10, [2, 3, 5, 7])

    def test_high_below_low(self):
        for low, high in ((1, 0), (5, 3), (3, 2), (100000, 0), (TWELFTH, 2), (TWELFTH, -TWELFTH), (0, -100), (7, 6)):
            self.assert_primes(low, high, [])

    def test_stretches_of_a_hundred_thousand(self):
        for low, high in ((0, 100000), (1, 100001), (10000, 110000), (9973, 109973), (50000, 110000), (-1, 99999),
                          (20000, 120000), (100000, 200000)):
            self.assert_primes(low, high, [p for p in PRIMES if low <= p <= high])

    def test_short_stretches_at_every_place(self):
        for low in list(range(0, 4000, 61)) + list(range(4000, 239000, 1777)):
            for length in (0, 1, 7, 100):
                high = low + length
                due = PRIMES[bisect.bisect_left(PRIMES, low):bisect.bisect_right(PRIMES, high)]
                self.assert_primes(low, high, due)

    def test_stretches_of_many_lengths(self):
        chance = random.Random(34)
        for turn in range(120):
            low = chance.randrange(-2000, 110000)
            high = low + chance.choice((50, 1000, 5000, 9000, 30000))
            due = PRIMES[bisect.bisect_left(PRIMES, low):bisect.bisect_right(PRIMES, high)]
            self.assert_primes(low, high, due)

    def test_a_hundred_about_ten_to_the_twelfth(self):
        for low in range(TWELFTH - 70, TWELFTH, 3):
            high = low + 100
            self.assert_primes(low, high, [p for p in ABOUT_TWELFTH if low <= p <= high])
        for low in (10 ** 7, 10 ** 9, 3 * 10 ** 10):
            due = [n for n in range(low, low + 101) if n % 2 and primes_with_times(n) == [(n, 1)]]
            self.assert_primes(low, low + 100, due)

    def test_told_anew_at_each_asking(self):
        for low, high in ((0, 30), (24, 28), (5, 2), (TWELFTH - 50, TWELFTH)):
            assert_told_anew(self, lambda top: primes_in(low, top), high)


class CountPrimes(unittest.TestCase):
    def test_known(self):
        for n, count in ((2, 1), (3, 2), (4, 2), (10, 4), (100, 25), (1000, 168), (10000, 1229), (99999, 9592)):
            self.assertEqual(count_primes(n), count)
            self.assertIs(type(count_primes(n)), int)

    def test_below_two(self):
        for n in (1, 0, -1, -2, -100, -TWELFTH, -SIXTY):
            self.assertEqual(count_primes(n), 0)

    def test_small_numbers(self):
        for n in range(-10, 1500):
            self.assertEqual(count_primes(n), bisect.bisect_right(PRIMES, n))

    def test_about_squares_and_great_primes(self):
        for p in PRIMES[:65]:
            for n in (p * p - 1, p * p, p * p + 1):
                self.assertEqual(count_primes(n), bisect.bisect_right(PRIMES, n))
        for n in (99989, 99990, 99991, 99992, 100000, 100003):
            self.assertEqual(count_primes(n), bisect.bisect_right(PRIMES, n))


class PrimeAt(unittest.TestCase):
    def test_known(self):
        for k, p in ((0, 2), (1, 3), (2, 5), (24, 97), (25, 101), (9999, 104729)):
            self.assertEqual(prime_at(k), p)
            self.assertIs(type(prime_at(k)), int)

    def test_many(self):
        for k in list(range(200)) + list(range(200, 10000, 173)) + [9998, 10000]:
            self.assertEqual(prime_at(k), PRIMES[k])

    def test_about_every_number_of_primes(self):
        # Where the primes up to a doubled bound are just used up.
        for top in (100, 200, 400, 800, 1600, 3200, 6400):
            count = bisect.bisect_right(PRIMES, top)
            for k in (count - 1, count, count + 1):
                self.assertEqual(prime_at(k), PRIMES[k])

    def test_refuses_numbers_below_nought(self):
        for k in (-1, -2, -100, -TWELFTH):
            self.assertRaises(NoNumber, prime_at, k)


class NextAndLast(unittest.TestCase):
    def test_known(self):
        self.assertEqual([next_prime(n) for n in (-5, 0, 1, 2, 3, 7, 8, 13)], [2, 2, 2, 3, 5, 11, 11, 17])
        self.assertEqual([last_prime(n) for n in (3, 4, 5, 6, 7, 8, 14)], [2, 3, 3, 5, 5, 7, 13])

    def test_none_below_two(self):
        for n in (2, 1, 0, -1, -7, -TWELFTH, -SIXTY):
            self.assertIs(last_prime(n), None)

    def test_next_of_numbers_below(self):
        for n in (1, 0, -1, -2, -7, -TWELFTH, -SIXTY):
            self.assertEqual(next_prime(n), 2)

    def test_small_numbers(self):
        for n in range(-10, 3000):
            self.assertEqual(next_prime(n), PRIMES[bisect.bisect_right(PRIMES, n)])
            ahead = bisect.bisect_left(PRIMES, n)
            self.assertEqual(last_prime(n), PRIMES[ahead - 1] if ahead else None)

    def test_wide_gaps(self):
        for low, high in ((113, 127), (1327, 1361), (31397, 31469), (370261, 370373), (2010733, 2010881),
                          (25056082087, 25056082543), (304599508537, 304599509051)):
            for n in (low, low + 1, high - 1):
                self.assertEqual(next_prime(n), high)
            for n in (low + 1, high - 1, high):
                self.assertEqual(last_prime(n), low)

    def test_about_ten_to_the_twelfth(self):
        self.assertEqual(next_prime(TWELFTH), 1000000000039)
        self.assertEqual(next_prime(999999999989), 1000000000039)
        self.assertEqual(last_prime(TWELFTH), 999999999989)
        self.assertEqual(last_prime(999999999989), 999999999961)


class StretchTold(unittest.TestCase):
    def test_known(self):
        self.assertEqual(stretch_told(-1, 7), [
            (-1, "small", 0), (0, "small", 0), (1, "small", 0), (2, "prime", 1), (3, "prime", 2), (4, "part", 2),
            (5, "prime", 2), (6, "part", 2), (7, "prime", 3)])

    def test_stretches(self):
        for low, high in STRETCHES:
            due = stretch_by_the_words(low, high)
            found = stretch_told(low, high)
            self.assertEqual(found, due)
            self.assertEqual(kinds_in(found), kinds_in(due))

    def test_high_below_low(self):
        for low, high in ((1, 0), (5, 3), (MILLIONS, 0), (0, -9)):
            self.assertEqual(stretch_told(low, high), [])

    def test_every_number_is_told(self):
        for low in range(-300, 3000, 199):
            rows = stretch_told(low, low + 199)
            self.assertEqual([row[0] for row in rows], list(range(low, low + 200)))
            self.assertEqual([row[0] for row in rows if row[1] == "prime"], primes_in(low, low + 199))

    def test_told_anew_at_each_asking(self):
        for low, high in ((0, 30), (5, 2)):
            assert_told_anew(self, lambda top: stretch_told(low, top), high)


class StretchShows(unittest.TestCase):
    def assert_judged(self, low, high, stretch, due):
        self.assertIs(stretch_shows(low, high, stretch), due, (low, high, stretch[:3]))

    def test_what_is_told(self):
        for low, high in STRETCHES + ((5, 3), (1, 0), (MILLIONS, 0)):
            self.assert_judged(low, high, stretch_told(low, high), True)
            self.assert_judged(low, high, stretch_by_the_words(low, high), True)

    def test_no_numbers(self):
        self.assert_judged(5, 4, [], True)
        self.assert_judged(5, 3, [], True)
        self.assert_judged(10 ** 9, -10 ** 9, [], True)
        self.assert_judged(5, 5, [], False)
        self.assert_judged(5, 3, [(5, "prime", 2)], False)
        self.assert_judged(5, 3, [(5, "prime", 2), (4, "part", 2), (3, "prime", 2)], False)
        self.assert_judged(-SIXTY, SIXTY, [], False)

    def test_numbers_left_out_twice_exchanged_or_more(self):
        for low, high in ((-3, 9), (2, 12), (90, 101), (9999990, 10000005)):
            rows = stretch_by_the_words(low, high)
            for k in range(len(rows)):
                self.assert_judged(low, high, rows[:k] + rows[k + 1:], False)
                self.assert_judged(low, high, rows[:k + 1] + rows[k:], False)
                self.assert_judged(low, high, rows[:k] + rows[k + 1:] + [rows[k]], k == len(rows) - 1)
                if k + 1 < len(rows):
                    self.assert_judged(low, high, rows[:k] + [rows[k + 1], rows[k]] + rows[k + 2:], False)
                    self.assert_judged(low, high, rows[:k] + [rows[k + 1]] * 2 + rows[k + 2:], False)
            self.assert_judged(low, high, rows + stretch_by_the_words(high + 1, high + 1), False)
            self.assert_judged(low, high, stretch_by_the_words(low - 1, low - 1) + rows, False)
            self.assert_judged(low, high, stretch_by_the_words(low + 1, high + 1), False)
            self.assert_judged(low, high, stretch_by_the_words(low - 1, high - 1), False)
            self.assert_judged(low, high, rows[::-1], False)

    def test_one_row_of_any_kind(self):
        for n in range(-4, 45):
            for word in ("small", "prime", "part", "", "Prime", "parts", "prime ", "none", "root"):
                for thing in range(-n - 2 if n > 0 else -3, n + 4 if n > 0 else 4):
                    due = row_by_the_words(n, (n, word, thing))
                    self.assert_judged(n, n, [(n, word, thing)], due)

    def test_another_right_root_or_part(self):
        rows = stretch_by_the_words(2, 13)
        self.assert_judged(2, 13, rows, True)
        for n, thing in (
                (5, 3), (7, 5), (11, 6), (11, 7), (11, 8), (13, 6), (13, 11), (6, 3), (8, 4), (12, 4), (12, 6)):
            changed = list(rows)
            changed[n - 2] = (n, rows[n - 2][1], thing)
            self.assert_judged(2, 13, changed, True)

    def test_a_wrong_root_or_part_anywhere(self):
        for low, high in ((-2, 14), (89, 101), (9999973 - 5, 9999973 + 5), (MILLIONS - 8, MILLIONS - 1)):
            rows = stretch_by_the_words(low, high)
            for k, (n, word, thing) in enumerate(rows):
                if word == "small":
                    wrong = [(n, "small", 1), (n, "small", -1), (n, "prime", 1), (n, "part", 1), (n, "prime", 0)]
                elif word == "prime":
                    # A square has half the order, or less, but by 2.
                    wrong = [(n, "prime", 0), (n, "prime", n), (n, "prime", thing + n), (n, "prime", thing - n),
                             (n, "part", thing), (n, "part", 1), (n, "part", n), (n, "small", 0), (n, "small", thing)]
                    wrong += [(n, "prime", thing * thing % n), (n, "prime", n - 1)] if n > 3 else []
                else:
                    wrong = [(n, "part", 1), (n, "part", n), (n, "part", -thing), (n, "part", 0),
                             (n, "part", n + thing), (n, "part", n - 1), (n, "part", 2 * n), (n, "prime", thing),
                             (n, "prime", 1), (n, "prime", n - 1), (n, "small", 0)]
                for row in wrong + [(n + 1, word, thing), (n - 1, word, thing), (-n - 1, word, thing), (n, "x", thing)]:
                    self.assert_judged(low, high, rows[:k] + [row] + rows[k + 1:], False)

    def test_no_number_that_is_none_has_a_root(self):
        for n in [n for n in range(4, 200) if n not in PRIME_SET] + [561, 1105, 1729, 2047, 2465, 2821]:
            for g in range(-1, n + 2):
                self.assert_judged(n, n, [(n, "prime", g)], False)

    def test_all_roots_of_primes(self):
        for p in PRIMES[:30]:
            for g in range(-2, p + 3):
                due = 1 <= g <= p - 1 and order_by_trying(g, p) == p - 1
                self.assert_judged(p, p, [(p, "prime", g)], due)

    def test_great_things(self):
        for thing in (SIXTY, -SIXTY, 1 - SIXTY, SIXTY - 1):
            for n in (-1, 0, 1, 2, 3, 4, 7, 9, 9999973):
                for word in ("small", "prime", "part"):
                    self.assert_judged(n, n, [(n, word, thing)], False)
            self.assert_judged(2, 2, [(thing, "prime", 1)], False)

    def test_nothing_is_changed(self):
        for low, high in ((-5, 30), (89, 101)):
            assert_unchanged(self, lambda thing: stretch_shows(low, high, thing), stretch_told(low, high))
            assert_unchanged(self, lambda thing: stretch_shows(low, high + 1, thing), stretch_told(low, high))


if __name__ == "__main__":
    unittest.main()

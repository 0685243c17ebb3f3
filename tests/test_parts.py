"""Points 22 to 25: parts, divisors, orders and roots."""

import math
import random
import unittest

from made import (
    GREAT_PARTS, GREAT_ROOTS, NO_PRIMES, PRIMES, PRIMES_TO_TWELFTH, TWO, assert_told_anew, is_root, kinds_in, made,
    primes_with_times, shows_by_the_words)
from rootpapers.errors import NoInverse, NoNumber, NoPrime
from rootpapers.papers import paper_number, paper_shows
from rootpapers.parts import (
    apart_from, divisors_of, divisors_sum, least_root, order_by, parts_of, parts_shown, root_by)

SIXTY = 10 ** 60
PRIME_SET = set(PRIMES)
BELOW_ONE = (0, -1, -2, -7, -12, -999999999989, 1 - 10 ** 12)
# Each with its second greatest prime below a hundred and two thousand.
GREAT_NUMBERS = (
    2 ** 39, 3 ** 25, 10 ** 12 - 1, 101987 * 101999, 101999 ** 2, 2 * 101999 * 4899079, 999999999989, 101999 * 9803921,
    999335644786, 2 * 499999999979, 999999999988, 7 ** 14, 99991 * 9999991, 2 * 3 * 5 * 7 * 11 * 13 * 17 * 19 * 23 * 29,
)
# From 240 to 6720 divisors, the last of which are more than is asked.
MANY_DIVISORS = (720720, 21621600, 43243200, 73513440, 110270160, 735134400, 6983776800, 963761198400)


def divisors_by_trying(n):
    low = [d for d in range(1, math.isqrt(n) + 1) if n % d == 0]
    return sorted(set(low) | {n // d for d in low})


def order_by_trying(a, n):
    power, exponent = a % n, 1
    while power != 1 % n:
        power, exponent = power * a % n, exponent + 1
    return exponent


def apart_by_trying(n):
    return sum(math.gcd(k, n) == 1 for k in range(1, n + 1))


def root_by_trying(n):
    if n == 1:
        return 0
    count = apart_by_trying(n)
    for g in range(1, n):
        if math.gcd(g, n) == 1 and order_by_trying(g, n) == count:
            return g
    return None


class PartsCase(unittest.TestCase):
    def assert_number(self, found, due):
        self.assertIs(type(found), int)
        self.assertEqual(found, due)

    def assert_refused_below_one(self, *asked):
        for n in BELOW_ONE:
            for one in asked:
                with self.subTest(n=n, asked=one.__name__):
                    self.assertRaises(NoNumber, one, n)


class PartsOf(PartsCase):
    def assert_parts(self, n, due):
        found = parts_of(n)
        self.assertEqual(found, due)
        self.assertEqual(kinds_in(found), kinds_in(due))

    def test_known(self):
        self.assert_parts(1, [])
        self.assert_parts(2, [(2, 1)])
        self.assert_parts(12, [(2, 2), (3, 1)])
        self.assert_parts(360, [(2, 3), (3, 2), (5, 1)])
        self.assert_parts(999999999989, [(999999999989, 1)])
        self.assert_parts(999983 ** 2, [(999983, 2)])

    def test_small_numbers(self):
        for n in range(1, 6000):
            self.assert_parts(n, primes_with_times(n))

    def test_great_numbers(self):
        for n in GREAT_NUMBERS + MANY_DIVISORS + PRIMES_TO_TWELFTH:
            self.assert_parts(n, primes_with_times(n))

    def test_powers(self):
        for p in PRIMES[:40]:
            times = 1
            while p ** times < 10 ** 12:
                self.assert_parts(p ** times, [(p, times)])
                times += 1

    def test_told_anew_at_each_asking(self):
        for n in (1, 2, 360, 999999999989):
            assert_told_anew(self, parts_of, n)

    def test_refuses_numbers_below_one(self):
        self.assert_refused_below_one(parts_of)


class PartsShown(PartsCase):
    def assert_shown(self, n):
        found = parts_shown(n)
        due = [(made(prime), times) for prime, times in primes_with_times(n)]
        self.assertEqual(found, due)
        self.assertEqual(kinds_in(found), kinds_in(due))
        product = 1
        for paper, times in found:
            self.assertIs(paper_shows(paper), True)
            self.assertIs(shows_by_the_words(paper), True)
            product *= paper_number(paper) ** times
        self.assertEqual(product, n)

    def test_known(self):
        self.assertEqual(parts_shown(1), [])
        self.assertEqual(parts_shown(8), [(TWO, 3)])
        self.assertEqual(parts_shown(12), [(TWO, 2), (("root", 3, 2, [(TWO, 1)]), 1)])

    def test_every_small_number(self):
        for n in range(1, 1500):
            self.assert_shown(n)

    def test_great_numbers(self):
        for n in GREAT_NUMBERS + MANY_DIVISORS + GREAT_PARTS:
            self.assert_shown(n)

    def test_told_anew_at_each_asking(self):
        # Three stands in the papers of 7 and of 13, too.
        for n in (1, 2, 7, 3 * 7 * 13, 7 ** 3, 999999999989):
            assert_told_anew(self, parts_shown, n)

    def test_refuses_numbers_below_one(self):
        self.assert_refused_below_one(parts_shown)


class Divisors(PartsCase):
    def test_known(self):
        self.assertEqual(divisors_of(1), [1])
        self.assertEqual(divisors_of(12), [1, 2, 3, 4, 6, 12])
        self.assert_number(divisors_sum(1), 1)
        self.assert_number(divisors_sum(12), 28)
        self.assert_number(divisors_sum(6), 12)
        self.assert_number(apart_from(1), 1)
        self.assert_number(apart_from(2), 1)
        self.assert_number(apart_from(12), 4)

    def test_small_numbers(self):
        for n in range(1, 1500):
            due = [d for d in range(1, n + 1) if n % d == 0]
            self.assertEqual(divisors_of(n), due)
            self.assertIs(type(divisors_of(n)), list)
            self.assert_number(divisors_sum(n), sum(due))
            self.assert_number(apart_from(n), apart_by_trying(n))

    def test_many_divisors(self):
        self.assertEqual([len(divisors_of(n)) for n in (720720, 21621600, 73513440)], [240, 576, 768])
        for n in MANY_DIVISORS:
            due = divisors_by_trying(n)
            self.assertEqual(divisors_of(n), due)
            self.assert_number(divisors_sum(n), sum(due))

    def test_great_numbers(self):
        for n in GREAT_NUMBERS:
            due = divisors_by_trying(n)
            self.assertEqual(divisors_of(n), due)
            self.assert_number(divisors_sum(n), sum(due))

    def test_primes(self):
        for p in PRIMES_TO_TWELFTH:
            self.assertEqual(divisors_of(p), [1, p])
            self.assert_number(divisors_sum(p), p + 1)
            self.assert_number(apart_from(p), p - 1)

    def test_apart_from_great_numbers(self):
        for n in GREAT_NUMBERS + MANY_DIVISORS:
            self.assert_number(apart_from(n), math.prod(p ** (t - 1) * (p - 1) for p, t in primes_with_times(n)))
        # All numbers that are told for the divisors together come to n.
        for n in (360, 5040, 99991):
            self.assertEqual(sum(apart_from(d) for d in divisors_of(n)), n)

    def test_told_anew_at_each_asking(self):
        for n in (1, 2, 360, 999999999989):
            assert_told_anew(self, divisors_of, n)

    def test_refuses_numbers_below_one(self):
        self.assert_refused_below_one(divisors_of, divisors_sum, apart_from)


class OrderBy(PartsCase):
    def test_known(self):
        self.assert_number(order_by(2, 7), 3)
        self.assert_number(order_by(3, 7), 6)
        self.assert_number(order_by(10, 17), 16)
        self.assert_number(order_by(7, 8), 2)

    def test_by_one(self):
        for a in (0, 1, -1, 2, 5, -7, SIXTY - 1, 1 - SIXTY):
            self.assert_number(order_by(a, 1), 1)

    def test_small_numbers(self):
        for n in range(1, 130):
            for a in range(-n - 2, 2 * n + 3):
                if math.gcd(a, n) == 1:
                    self.assert_number(order_by(a, n), order_by_trying(a, n))
                else:
                    self.assertRaises(NoInverse, order_by, a, n)

    def test_powers_and_products(self):
        for n in (3 ** 8, 2 ** 14, 5 ** 5 * 7, 2 * 3 * 5 * 7 * 11, 561, 1105, 29341, 2047, 10 ** 4, 65537):
            for a in (-1, 2, 3, -3, 5, 7, 10, 13, n - 1, n + 1, 9973, 8 * n + 13):
                if math.gcd(a, n) == 1:
                    self.assert_number(order_by(a, n), order_by_trying(a, n))
                else:
                    self.assertRaises(NoInverse, order_by, a, n)

    def test_great_numbers(self):
        chance = random.Random(24)
        for n in GREAT_NUMBERS + MANY_DIVISORS + PRIMES_TO_TWELFTH:
            for a in [-1, 2, 3, n - 1, n + 1, SIXTY - 1] + [chance.randrange(-10 ** 12, 10 ** 12) for turn in range(6)]:
                if math.gcd(a, n) != 1:
                    self.assertRaises(NoInverse, order_by, a, n)
                    continue
                found = order_by(a, n)
                self.assertEqual(pow(a, found, n), 1)
                for q, times in primes_with_times(found):
                    self.assertNotEqual(pow(a, found // q, n), 1)

    def test_none_where_something_divides_both(self):
        for a, n in ((0, 2), (0, 7), (2, 4), (3, 999999999987), (-6, 9), (10, 15), (999983, 999983 ** 2), (7, 7)):
            self.assertRaises(NoInverse, order_by, a, n)

    def test_no_number_goes_ahead(self):
        for n in BELOW_ONE:
            for a in (0, 1, -1, 2, 6, n, -n):
                with self.subTest(a=a, n=n):
                    self.assertRaises(NoNumber, order_by, a, n)


class LeastRoot(PartsCase):
    def test_known(self):
        small = ((2, 1), (3, 2), (5, 2), (7, 3), (11, 2), (13, 2), (17, 3), (23, 5), (41, 6), (71, 7))
        for p, g in small + GREAT_ROOTS:
            self.assert_number(least_root(p), g)

    def test_primes(self):
        for p in PRIMES[:60]:
            self.assert_number(least_root(p), next(g for g in range(1, p) if order_by_trying(g, p) == p - 1))
        for p in PRIMES[60::7] + list(PRIMES_TO_TWELFTH):
            primes = [q for q, times in primes_with_times(p - 1)]
            self.assert_number(least_root(p), next(g for g in range(1, p) if is_root(g, p, primes)))

    def test_order_of_it(self):
        for p in PRIMES[:200]:
            self.assert_number(order_by(least_root(p), p), p - 1)

    def test_refuses_what_is_no_prime(self):
        for n in NO_PRIMES + tuple(n for n in range(-30, 400) if n not in PRIME_SET):
            with self.subTest(n=n):
                self.assertRaises(NoPrime, least_root, n)


class RootBy(PartsCase):
    def test_known(self):
        for n, g in ((1, 0), (2, 1), (3, 2), (4, 3), (5, 2), (6, 5), (9, 2), (18, 5), (22, 7), (10 ** 6 - 17, 5)):
            self.assert_number(root_by(n), g)
        for n in (8, 12, 15, 16, 20, 21, 24, 561, 1105, 2 ** 19, 10 ** 6, 999999):
            self.assertIs(root_by(n), None)

    def test_small_numbers(self):
        for n in range(1, 420):
            due = root_by_trying(n)
            if due is None:
                self.assertIs(root_by(n), None)
            else:
                self.assert_number(root_by(n), due)

    def test_powers_of_odd_primes_and_twice_such(self):
        for p in (3, 5, 7, 11, 29, 37, 487, 997):
            power = p
            while power < 10 ** 6:
                for n in (power, 2 * power):
                    count = power - power // p
                    primes = [q for q, times in primes_with_times(count)]
                    due = next(g for g in range(1, n) if math.gcd(g, n) == 1
                               and all(pow(g, count // q, n) != 1 for q in primes))
                    self.assert_number(root_by(n), due)
                    self.assert_number(order_by(due, n), count)
                    self.assertIs(root_by(4 * n), None)
                power *= p

    def test_a_root_of_a_prime_that_is_none_by_its_square(self):
        self.assert_number(order_by(14, 29), 28)
        self.assert_number(order_by(14, 29 ** 2), 28)
        self.assert_number(least_root(40487), 5)
        self.assert_number(root_by(40487 ** 2), 10)

    def test_a_prime_has_its_least_root(self):
        for p in PRIMES[:150]:
            self.assertEqual(root_by(p), least_root(p))

    def test_refuses_numbers_below_one(self):
        self.assert_refused_below_one(root_by)


if __name__ == "__main__":
    unittest.main()

"""Points 26 to 28: signs, roots of squares and logarithms by a prime."""

import math
import random
import unittest

from made import GREAT_PRIMES, NO_PRIMES, PRIMES, PRIMES_TO_TWELFTH, assert_told_anew, primes_with_times
from rootpapers.errors import NoNumber, NoPrime, NoRoot
from rootpapers.squares import logarithm, roots_by, sign_by, sign_of

SIXTY = 10 ** 60
PRIME_SET = set(PRIMES)
NONE_OF_THEM = NO_PRIMES + tuple(n for n in range(-30, 300) if n not in PRIME_SET)
# Primes with many twos in the number ahead of them, from 8 to 36.
MANY_TWOS = (257, 12289, 40961, 65537, 786433, 998244353, 2013265921, 3221225473, 206158430209)


def squares_by(p):
    return {x * x % p for x in range(p)}


def sign_by_euler(a, p):
    power = pow(a, (p - 1) // 2, p)
    return -1 if power == p - 1 and p > 2 else power


def sign_by_the_words(a, n):
    sign = 1
    for p, times in primes_with_times(n):
        sign *= sign_by_euler(a, p) ** times
    return sign


class SignCase(unittest.TestCase):
    def assert_sign(self, found, due):
        self.assertIs(type(found), int)
        self.assertEqual(found, due)


class SignBy(SignCase):
    def test_small_primes(self):
        for p in PRIMES[1:45]:
            squares = squares_by(p)
            for a in range(-p - 2, 2 * p + 3):
                due = 0 if a % p == 0 else 1 if a % p in squares else -1
                self.assert_sign(sign_by(a, p), due)

    def test_great_primes(self):
        chance = random.Random(26)
        for p in PRIMES_TO_TWELFTH:
            some = [chance.randrange(-p, p) for k in range(30)]
            for a in [0, 1, -1, 2, -2, 3, p, -p, p - 1, p + 1, SIXTY - 1] + some:
                self.assert_sign(sign_by(a, p), sign_by_euler(a, p))
                self.assert_sign(sign_by(a * a, p), 0 if a % p == 0 else 1)

    def test_refuses_what_is_no_odd_prime(self):
        for n in NONE_OF_THEM + (2,):
            for a in (0, 1, -1, 2, 7, n):
                with self.subTest(a=a, n=n):
                    self.assertRaises(NoPrime, sign_by, a, n)


class SignOf(SignCase):
    def test_by_one(self):
        for a in (0, 1, -1, 2, 3, -7, SIXTY - 1, 1 - SIXTY):
            self.assert_sign(sign_of(a, 1), 1)

    def test_known(self):
        self.assert_sign(sign_of(2, 15), 1)
        self.assert_sign(sign_of(7, 15), -1)
        self.assert_sign(sign_of(6, 15), 0)
        self.assert_sign(sign_of(1001, 9907), -1)
        self.assert_sign(sign_of(-1, 9), 1)

    def test_small_numbers(self):
        for n in range(1, 320, 2):
            for a in range(-n - 9, n + 10):
                self.assert_sign(sign_of(a, n), sign_by_the_words(a, n))

    def test_numbers_with_known_primes(self):
        chance = random.Random(27)
        for turn in range(800):
            primes = [chance.choice(PRIMES[1:400]) for k in range(chance.randrange(1, 9))]
            n = math.prod(primes)
            a = chance.choice((chance.randrange(-SIXTY, SIXTY), chance.randrange(-50, 50), -n, n + 2, n - 2, n // 2))
            self.assert_sign(sign_of(a, n), math.prod(sign_by_euler(a, p) for p in primes))

    def test_numbers_of_sixty_figures(self):
        chance = random.Random(28)
        great = list(GREAT_PRIMES)
        products = [(p,) for p in great] + [(great[0], great[4]), (great[0], 3, 5), (great[1], 101, 101), (great[2], 7)]
        for primes in products:
            n = math.prod(primes)
            self.assertLess(n, SIXTY)
            for a in [0, 1, -1, 2, -2, n - 1, n + 1, primes[0], -primes[-1]] + [
                    chance.randrange(-SIXTY, SIXTY) for k in range(25)]:
                self.assert_sign(sign_of(a, n), math.prod(sign_by_euler(a, p) for p in primes))

    def test_nought_where_something_divides_both(self):
        for a, n in ((0, 3), (0, 9), (3, 9), (-3, 9), (35, 49), (10 ** 30 - 1, SIXTY - 1), (561, 3), (7 * 2 ** 100, 7)):
            self.assert_sign(sign_of(a, n), 0)
        for n in range(1, 200, 2):
            for a in range(-40, 41):
                self.assertEqual(sign_of(a, n) == 0, math.gcd(a, n) > 1)

    def test_the_sign_by_a_prime_is_the_same(self):
        for p in PRIMES[1:60]:
            for a in range(-20, 20):
                self.assert_sign(sign_of(a, p), sign_by(a, p))

    def test_refuses_even_numbers_and_those_below_one(self):
        for n in list(range(-41, 1)) + list(range(2, 60, 2)) + [SIXTY - 2, 1 - SIXTY, 2 - SIXTY]:
            for a in (0, 1, -1, 2, 3, n):
                with self.subTest(a=a, n=n):
                    self.assertRaises(NoNumber, sign_of, a, n)


class RootsBy(unittest.TestCase):
    def assert_roots(self, a, p):
        found = roots_by(a, p)
        self.assertIs(type(found), list)
        if a % p == 0:
            self.assertEqual(found, [0])
        elif p == 2:
            self.assertEqual(found, [1])
        elif sign_by_euler(a, p) == -1:
            self.assertEqual(found, [])
        else:
            self.assertEqual(len(found), 2)
            self.assertEqual([type(x) for x in found], [int, int])
            self.assertTrue(0 < found[0] < found[1] < p)
            self.assertEqual([x * x % p for x in found], [a % p, a % p])

    def test_by_two(self):
        for a in range(-9, 10):
            self.assertEqual(roots_by(a, 2), [a % 2])

    def test_small_primes(self):
        for p in PRIMES[:45]:
            for a in range(-p - 2, 2 * p + 3):
                self.assertEqual(roots_by(a, p), [x for x in range(p) if (x * x - a) % p == 0])
                self.assertIs(type(roots_by(a, p)), list)

    def test_all_squares_by_primes_with_many_twos(self):
        for p in (97, 193, 257, 641, 769):
            roots = {}
            for x in range(p):
                roots.setdefault(x * x % p, []).append(x)
            for a in range(p):
                self.assertEqual(roots_by(a, p), roots.get(a, []))

    def test_primes_of_every_rest_by_eight(self):
        chance = random.Random(29)
        for p in PRIMES[50:2000:9]:
            for a in [chance.randrange(-2 * p, 2 * p) for k in range(6)] + [-1, 2, -2, 0, p, p + 4]:
                self.assert_roots(a, p)

    def test_great_primes(self):
        chance = random.Random(30)
        for p in PRIMES_TO_TWELFTH + MANY_TWOS:
            for a in [0, p, -p, 1, -1, 2, -2, 3, p - 4, SIXTY - 1] + [chance.randrange(-p, p) for k in range(12)]:
                self.assert_roots(a, p)
                self.assert_roots(a * a, p)
            # Squares of every order: the squares of a root's powers by powers of two.
            g = next(g for g in range(2, p) if sign_by_euler(g, p) == -1)
            for k in range((p - 1).bit_length()):
                self.assert_roots(pow(g, 2 ** k, p), p)

    def test_rests_by_eight_are_all_there(self):
        self.assertEqual({p % 8 for p in PRIMES_TO_TWELFTH}, {1, 3, 5, 7})

    def test_told_anew_at_each_asking(self):
        for a, p in ((0, 2), (1, 2), (0, 7), (2, 7), (3, 7), (5, 999999999989)):
            assert_told_anew(self, lambda thing: roots_by(thing, p), a)

    def test_refuses_what_is_no_prime(self):
        for n in NONE_OF_THEM:
            for a in (0, 1, -1, 2, 4):
                with self.subTest(a=a, n=n):
                    self.assertRaises(NoPrime, roots_by, a, n)


class Logarithm(unittest.TestCase):
    def test_by_two(self):
        self.assertEqual(logarithm(1, 1, 2), 0)
        for a, g in ((0, 1), (1, 0), (2, 1), (1, 2), (1, 3), (-1, 1), (1, -1)):
            self.assertRaises(NoNumber, logarithm, a, g, 2)

    def test_small_primes(self):
        for p in PRIMES[:16]:
            for g in range(1, p):
                powers = [pow(g, k, p) for k in range(p - 1)]
                for a in range(1, p):
                    if len(set(powers)) == p - 1:
                        found = logarithm(a, g, p)
                        self.assertIs(type(found), int)
                        self.assertEqual(found, powers.index(a))
                    else:
                        self.assertRaises(NoRoot, logarithm, a, g, p)

    def test_nought_of_one(self):
        for p, g in ((2, 1), (3, 2), (7, 3), (999983, 5), (786433, 10)):
            self.assertEqual(logarithm(1, g, p), 0)
            self.assertEqual(logarithm(g, g, p), 1 if p > 2 else 0)

    def test_great_primes(self):
        for p, g in ((999983, 5), (786433, 10), (760321, 73), (110881, 69), (65537, 3)):
            for exponent in (2, 3, 1000, 29999, 30000, 7777):
                self.assertEqual(logarithm(pow(g, exponent, p), g, p), exponent)

    def test_the_greatest_exponent(self):
        for p, g in ((3, 2), (7, 3), (191, 19), (10007, 5)):
            self.assertEqual(logarithm(pow(g, -1, p), g, p), p - 2)

    def test_no_prime_goes_ahead(self):
        for n in NONE_OF_THEM:
            for a, g in ((1, 1), (0, 1), (1, 0), (2, 2), (n, 1), (1, n), (3, 2), (-1, -1), (n + 1, n + 1)):
                with self.subTest(a=a, g=g, n=n):
                    self.assertRaises(NoPrime, logarithm, a, g, n)

    def test_refuses_numbers_out_of_bounds(self):
        for p, g in ((3, 2), (7, 3), (13, 2), (999983, 5)):
            for wrong in (0, -1, -g, p, p + 1, p + g, 2 * p, g - p, SIXTY):
                with self.subTest(p=p, wrong=wrong):
                    self.assertRaises(NoNumber, logarithm, wrong, g, p)
                    self.assertRaises(NoNumber, logarithm, 1, wrong, p)
                    self.assertRaises(NoNumber, logarithm, wrong, wrong, p)
                    # A number out of bounds goes ahead of a g that is no root.
                    self.assertRaises(NoNumber, logarithm, wrong, 1, p)

    def test_refuses_what_is_no_root(self):
        # 4 has a power that is 4, and yet no root is handed in; 1 is a root by 2 alone.
        for a, g, p in ((4, 4, 7), (1, 1, 3), (1, 1, 7), (2, 6, 7), (3, 4, 13), (1, 999982, 999983), (25, 25, 999983)):
            with self.subTest(a=a, g=g, p=p):
                self.assertRaises(NoRoot, logarithm, a, g, p)


if __name__ == "__main__":
    unittest.main()

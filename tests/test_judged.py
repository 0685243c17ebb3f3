"""Points 9 to 11: whether a number is a prime, its least part, the strong judging."""

import unittest

from rootpapers.errors import NoNumber
from rootpapers.judged import is_prime, least_part, stands

TOP = 120000
PRIMES_TO_TWELFTH = (
    999983, 1000003, 1299709, 15485863, 2147483647, 2147483629, 3215031749, 4294967291,
    10000000019, 68718952447, 99999999977, 200560490131, 999999999961, 999999999989,
)
# Numbers that are no primes, each standing the primes from 2 on to the one named beside it.
STRONG_LIARS = (
    (2047, 2), (1373653, 3), (25326001, 5), (3215031751, 7), (2152302898747, 11),
    (3474749660383, 13), (341550071728321, 19), (3825123056546413051, 31),
    (318665857834031151167461, 37), (3317044064679887385961981, 41),
)
CARMICHAELS = (
    561, 1105, 1729, 2465, 2821, 6601, 8911, 41041, 825265, 321197185, 5394826801, 232250619601,
    56052361 * 211, 3778118040573702001,
)
PRIME_OF_58 = 2 ** 192 - 237


def sieved_parts(top):
    parts = list(range(top))
    for part in range(2, top):
        if part * part >= top:
            return parts
        if parts[part] == part:
            for n in range(part * part, top, part):
                parts[n] = min(parts[n], part)


PARTS = sieved_parts(TOP)
PRIMES = [n for n in range(2, TOP) if PARTS[n] == n]


def stands_by_the_words(n, a):
    odd, s = n - 1, 0
    while odd % 2 == 0:
        odd, s = odd // 2, s + 1
    powers = [pow(a, odd * 2 ** k, n) for k in range(s)]
    return powers[0] == 1 or n - 1 in powers


class IsPrime(unittest.TestCase):
    def test_below_two(self):
        for n in (1, 0, -1, -2, -3, -7, -999999999989):
            with self.subTest(n=n):
                self.assertIs(is_prime(n), False)

    def test_small_numbers(self):
        self.assertIs(is_prime(2), True)
        for n in range(2, TOP):
            if is_prime(n) is not (PARTS[n] == n):
                self.fail(f"is_prime({n})")

    def test_primes_below_ten_to_the_twelfth(self):
        for n in PRIMES_TO_TWELFTH:
            with self.subTest(n=n):
                self.assertIs(is_prime(n), True)

    def test_products_of_two_primes(self):
        some = PRIMES[::97] + [999979, 999983]
        for p in some:
            for q in some:
                if is_prime(p * q) is not False:
                    self.fail(f"is_prime({p} * {q})")

    def test_products_of_near_primes(self):
        for k in range(0, len(PRIMES) - 1, 7):
            self.assertIs(is_prime(PRIMES[k] * PRIMES[k + 1]), False)

    def test_squares_of_primes(self):
        for p in PRIMES + [999979, 999983]:
            if is_prime(p * p) is not False:
                self.fail(f"is_prime({p} * {p})")

    def test_no_primes_that_stand_many_bases(self):
        for n, last in STRONG_LIARS:
            with self.subTest(n=n):
                self.assertIs(is_prime(n), False)

    def test_no_primes_that_let_all_powers_be(self):
        for n in CARMICHAELS:
            with self.subTest(n=n):
                self.assertIs(is_prime(n), False)

    def test_beyond_the_bound(self):
        for n in (10 ** 12 + 39, 10 ** 24 + 7, 2 ** 89 - 1, 2 ** 127 - 1, PRIME_OF_58):
            with self.subTest(n=n):
                self.assertIs(is_prime(n), True)
        for n in (10 ** 12 + 1, (2 ** 89 - 1) * (2 ** 107 - 1), (2 ** 89 - 1) ** 2, 2 ** 191 - 1):
            with self.subTest(n=n):
                self.assertIs(is_prime(n), False)


class LeastPart(unittest.TestCase):
    def assert_part(self, n, due):
        found = least_part(n)
        self.assertIs(type(found), int)
        self.assertEqual(found, due)

    def test_small_numbers(self):
        for n in range(2, 20000):
            self.assert_part(n, PARTS[n])

    def test_primes(self):
        for n in PRIMES[::113] + list(PRIMES_TO_TWELFTH):
            self.assert_part(n, n)

    def test_even_numbers(self):
        for n in (2, 4, 6, 10 ** 12 - 2, 2 ** 39, 2 * 499999999979, 10 ** 60 - 2):
            self.assert_part(n, 2)

    def test_squares_and_cubes(self):
        for p in PRIMES[::211] + [110989, 110969]:
            self.assert_part(p * p, p)
        for p in (3, 5, 7, 97, 9973):
            self.assert_part(p * p * p, p)

    def test_products_of_two_primes(self):
        for p in [p for p in PRIMES if p < 111000][::83] + [110969, 110977, 110989]:
            for q in (999983, 1000003, 110989, 15485863):
                self.assert_part(p * q, min(p, q))

    def test_sixty_figures_with_a_small_part(self):
        self.assert_part(7 * PRIME_OF_58, 7)
        self.assert_part((10 ** 60 - 1) // 9 // 3, 7)

    def test_refuses_numbers_below_two(self):
        for n in (1, 0, -1, -2, -15, -10 ** 12 + 1):
            with self.subTest(n=n):
                self.assertRaises(NoNumber, least_part, n)


class Stands(unittest.TestCase):
    def test_small_numbers_with_all_bases(self):
        for n in range(5, 320, 2):
            for a in range(2, n - 1):
                found = stands(n, a)
                self.assertIs(found, stands_by_the_words(n, a), (n, a))
                if PARTS[n] == n:
                    self.assertIs(found, True)

    def test_numbers_whose_forerunner_has_many_twos(self):
        for n in (257, 65537, 12289, 40961, 4033, 65281, 49 * 2 ** 10 + 1):
            for a in list(range(2, 60)) + [n - 2, n - 3]:
                self.assertIs(stands(n, a), stands_by_the_words(n, a), (n, a))

    def test_primes_stand_all(self):
        for n in PRIMES_TO_TWELFTH:
            for a in (2, 3, 4, 5, 6, 7, 10, n // 2, n - 3, n - 2):
                self.assertIs(stands(n, a), True)

    def test_known(self):
        self.assertIs(stands(5, 2), True)
        self.assertIs(stands(5, 3), True)
        self.assertIs(stands(9, 2), False)
        self.assertIs(stands(25, 7), True)
        self.assertIs(stands(2047, 2), True)
        self.assertIs(stands(2047, 3), False)
        self.assertIs(stands(561, 2), False)
        self.assertIs(stands(2047, 2045), True)
        self.assertIs(stands(561, 559), False)

    def test_no_primes_that_stand_many_bases(self):
        for n, last in STRONG_LIARS:
            for a in [p for p in PRIMES if p <= last]:
                self.assertIs(stands(n, a), True, (n, a))

    def test_sixty_figures(self):
        none = (2 ** 89 - 1) * (2 ** 107 - 1)
        for a in (2, 3, 12345, 10 ** 50 + 7, PRIME_OF_58 // 2, PRIME_OF_58 - 3, PRIME_OF_58 - 2):
            self.assertIs(stands(PRIME_OF_58, a), True)
        for a in (2, 3, 12345, 10 ** 50 + 7, none - 3, none - 2):
            self.assertIs(stands(none, a), stands_by_the_words(none, a))
        self.assertIs(stands(none, 3), False)

    def test_refuses_even_numbers(self):
        for n in (4, 6, 8, 100, 10 ** 60 - 2):
            with self.subTest(n=n):
                self.assertRaises(NoNumber, stands, n, 2)

    def test_refuses_numbers_below_three(self):
        for n in (2, 1, 0, -1, -3, -7, -10 ** 60 + 1):
            for a in (-9, -5, 0, 1, 2, 3):
                with self.subTest(n=n, a=a):
                    self.assertRaises(NoNumber, stands, n, a)

    def test_refuses_bases_out_of_bounds(self):
        for n in (5, 7, 9, 15, 2047, 10 ** 60 - 1):
            for a in (-n, -2, -1, 0, 1, n - 1, n, n + 1, n + 2):
                with self.subTest(n=n, a=a):
                    self.assertRaises(NoNumber, stands, n, a)

    def test_refuses_every_base_of_three(self):
        for a in range(-5, 10):
            with self.subTest(a=a):
                self.assertRaises(NoNumber, stands, 3, a)


if __name__ == "__main__":
    unittest.main()

"""Points 5 to 8: common divisors, powers and inverses, whole roots, two rests."""

import math
import unittest

from rootpapers.errors import NoInverse, NoNumber
from rootpapers.powers import common_of, common_with, inverse_by, power_by, two_rests, whole_root

SIXTY = 10 ** 60
# Numbers of about sixty figures, the same in every run.
GREAT = [pow(7, 61 * k + 211, SIXTY) for k in range(24)]
PRIME_OF_58 = 2 ** 192 - 237


class PowersCase(unittest.TestCase):
    def assert_number(self, found, due):
        self.assertIs(type(found), int)
        self.assertEqual(found, due)


class CommonOf(PowersCase):
    def test_small_numbers_of_either_sign_in_either_order(self):
        for a in range(-40, 41):
            for b in range(-40, 41):
                self.assert_number(common_of(a, b), math.gcd(a, b))

    def test_known(self):
        self.assert_number(common_of(12, 18), 6)
        self.assert_number(common_of(-12, 18), 6)
        self.assert_number(common_of(12, -18), 6)
        self.assert_number(common_of(-12, -18), 6)
        self.assert_number(common_of(18, 12), 6)

    def test_with_zero(self):
        self.assert_number(common_of(0, 0), 0)
        self.assert_number(common_of(0, 7), 7)
        self.assert_number(common_of(7, 0), 7)
        self.assert_number(common_of(0, -7), 7)
        self.assert_number(common_of(-7, 0), 7)

    def test_sixty_figures(self):
        for a in GREAT:
            for b in GREAT:
                self.assert_number(common_of(a, -b), math.gcd(a, b))

    def test_sixty_figures_with_and_without_a_common_part(self):
        common = 10 ** 29 + 319
        self.assert_number(common_of(common * 2 ** 99, common * 3 ** 60), common)
        self.assert_number(common_of(common * 3 ** 60, -common * 2 ** 99), common)
        self.assert_number(common_of(2 ** 199, 3 ** 125), 1)
        self.assert_number(common_of(SIXTY - 1, SIXTY - 2), 1)
        self.assert_number(common_of(SIXTY - 1, SIXTY - 1), SIXTY - 1)


class CommonWith(PowersCase):
    def assert_common_with(self, a, b):
        found = common_with(a, b)
        self.assertIs(type(found), tuple)
        self.assertEqual([type(number) for number in found], [int, int, int])
        g, x, y = found
        self.assertEqual(g, math.gcd(a, b))
        self.assertEqual(x * a + y * b, g)

    def test_small_numbers_with_zero_at_either_place_and_both(self):
        for a in range(60):
            for b in range(60):
                self.assert_common_with(a, b)

    def test_sixty_figures(self):
        for a in GREAT:
            self.assert_common_with(a, 0)
            self.assert_common_with(0, a)
            for b in GREAT:
                self.assert_common_with(a, b)

    def test_sixty_figures_with_a_common_part(self):
        common = 10 ** 29 + 319
        self.assert_common_with(common * 2 ** 99, common * 3 ** 60)
        self.assert_common_with(common * 3 ** 60, common * 2 ** 99)

    def test_refuses_numbers_below_zero(self):
        for a, b in ((-1, 5), (5, -1), (-1, -1), (-1, 0), (0, -1), (-SIXTY + 1, 3), (3, -SIXTY + 1)):
            with self.subTest(a=a, b=b):
                self.assertRaises(NoNumber, common_with, a, b)


class PowerBy(PowersCase):
    def test_small_numbers(self):
        for base in range(-12, 13):
            for exponent in range(14):
                for n in range(1, 20):
                    self.assert_number(power_by(base, exponent, n), base ** exponent % n)

    def test_exponents_zero_and_one(self):
        self.assert_number(power_by(0, 0, 5), 1)
        self.assert_number(power_by(-3, 0, 5), 1)
        self.assert_number(power_by(0, 1, 5), 0)
        self.assert_number(power_by(7, 1, 5), 2)
        self.assert_number(power_by(-7, 1, 5), 3)

    def test_by_one(self):
        for exponent in (0, 1, 2, SIXTY - 1):
            for base in (0, 1, -1, 5, SIXTY - 1):
                self.assert_number(power_by(base, exponent, 1), 0)

    def test_sixty_figures(self):
        for base in GREAT[:8]:
            for exponent in GREAT[8:16]:
                for n in GREAT[16:]:
                    self.assert_number(power_by(base, exponent, n), pow(base, exponent, n))
                    self.assert_number(power_by(-base, exponent, n), pow(-base, exponent, n))

    def test_a_prime_lets_the_power_be_one(self):
        self.assert_number(power_by(3, PRIME_OF_58 - 1, PRIME_OF_58), 1)
        self.assert_number(power_by(-3, PRIME_OF_58 - 1, PRIME_OF_58), 1)

    def test_refuses_exponents_below_zero(self):
        for exponent in (-1, -2, -SIXTY + 1):
            with self.subTest(exponent=exponent):
                self.assertRaises(NoNumber, power_by, 3, exponent, 7)
                self.assertRaises(NoNumber, power_by, 1, exponent, 1)

    def test_refuses_n_below_one(self):
        for n in (0, -1, -7, -SIXTY + 1):
            with self.subTest(n=n):
                self.assertRaises(NoNumber, power_by, 3, 2, n)
                self.assertRaises(NoNumber, power_by, 3, 0, n)
                self.assertRaises(NoNumber, power_by, 3, -1, n)


class InverseBy(PowersCase):
    def test_small_numbers_of_either_sign(self):
        for n in range(1, 50):
            for a in range(-60, 61):
                due = [x for x in range(n) if (a * x - 1) % n == 0]
                if due:
                    self.assert_number(inverse_by(a, n), due[0])
                else:
                    self.assertRaises(NoInverse, inverse_by, a, n)

    def test_known(self):
        self.assert_number(inverse_by(3, 7), 5)
        self.assert_number(inverse_by(-3, 7), 2)
        self.assert_number(inverse_by(1, 7), 1)
        self.assert_number(inverse_by(-1, 7), 6)
        self.assert_number(inverse_by(1, 2), 1)

    def test_by_one(self):
        for a in (0, 1, -1, 5, -SIXTY + 1):
            self.assert_number(inverse_by(a, 1), 0)

    def test_refuses_where_there_is_none(self):
        for a, n in ((0, 2), (0, 7), (7, 7), (-7, 7), (14, 7), (4, 6), (-4, 6), (SIXTY // 10, SIXTY - 2)):
            with self.subTest(a=a, n=n):
                self.assertRaises(NoInverse, inverse_by, a, n)

    def test_sixty_figures(self):
        for a in GREAT:
            for n in GREAT[:6] + [PRIME_OF_58, SIXTY - 1]:
                for signed in (a, -a):
                    if math.gcd(a, n) == 1:
                        self.assert_number(inverse_by(signed, n), pow(signed, -1, n))
                    else:
                        self.assertRaises(NoInverse, inverse_by, signed, n)

    def test_refuses_n_below_one_ahead_of_all_else(self):
        for n in (0, -1, -7, -SIXTY + 1):
            for a in (0, 1, -1, 3, 7):
                with self.subTest(a=a, n=n):
                    self.assertRaises(NoNumber, inverse_by, a, n)


class WholeRoot(PowersCase):
    def test_small_numbers(self):
        for n in range(3000):
            self.assert_number(whole_root(n), math.isqrt(n))

    def test_zero_and_one(self):
        self.assert_number(whole_root(0), 0)
        self.assert_number(whole_root(1), 1)

    def test_around_squares(self):
        roots = [10, 99, 2 ** 26 + 1, 2 ** 27, 94906266, 10 ** 12, 10 ** 29 + 319, 2 ** 99, 10 ** 30 - 1]
        for root in roots + [math.isqrt(n) for n in GREAT]:
            with self.subTest(root=root):
                self.assert_number(whole_root(root * root), root)
                self.assert_number(whole_root(root * root + 1), root)
                self.assert_number(whole_root(root * root - 1), root - 1)

    def test_sixty_figures(self):
        for n in GREAT + [SIXTY - 1]:
            self.assert_number(whole_root(n), math.isqrt(n))

    def test_refuses_numbers_below_zero(self):
        for n in (-1, -4, -SIXTY + 1):
            with self.subTest(n=n):
                self.assertRaises(NoNumber, whole_root, n)


class TwoRests(PowersCase):
    def assert_least(self, a, m, b, n):
        due = [x for x in range(m * n) if (x - a) % m == 0 and (x - b) % n == 0]
        if due:
            self.assert_number(two_rests(a, m, b, n), due[0])
        else:
            self.assertIsNone(two_rests(a, m, b, n))

    def test_small_numbers_with_and_without_a_common_part(self):
        for m in range(1, 13):
            for n in range(1, 13):
                for a in range(m):
                    for b in range(n):
                        self.assert_least(a, m, b, n)

    def test_rests_of_either_sign_and_beyond_their_numbers(self):
        for m, n in ((4, 6), (6, 4), (5, 7), (9, 3), (3, 9), (8, 8), (1, 6), (6, 1)):
            for a in range(-15, 16, 2):
                for b in range(-15, 16):
                    self.assert_least(a, m, b, n)

    def test_known(self):
        self.assert_number(two_rests(2, 3, 3, 5), 8)
        self.assert_number(two_rests(-1, 3, -1, 5), 14)
        self.assert_number(two_rests(3, 4, 5, 6), 11)
        self.assertIsNone(two_rests(1, 4, 2, 6))
        self.assertIsNone(two_rests(1, 5, 2, 5))

    def test_by_one(self):
        self.assert_number(two_rests(0, 1, 0, 1), 0)
        self.assert_number(two_rests(5, 1, -7, 1), 0)
        self.assert_number(two_rests(5, 1, 3, 7), 3)
        self.assert_number(two_rests(-4, 7, 9, 1), 3)

    def test_sixty_figures_without_a_common_part(self):
        m, n = 2 ** 199, 3 ** 125
        for x in GREAT:
            due = x * x % (m * n)
            self.assert_number(two_rests(due % m, m, due % n, n), due)
            self.assert_number(two_rests(due % m - m, m, due % n - n, n), due)

    def test_sixty_figures_with_a_common_part(self):
        common = 2 ** 97 * 3 ** 5
        m, n = common * 5 ** 20, common * 7 ** 20
        for x in GREAT:
            due = x * x % (common * 5 ** 20 * 7 ** 20)
            self.assert_number(two_rests(due % m, m, due % n, n), due)
            self.assertIsNone(two_rests(due % m, m, due % n + 1, n))

    def test_refuses_numbers_below_one(self):
        for wrong in (0, -1, -6, -SIXTY + 1):
            with self.subTest(wrong=wrong):
                self.assertRaises(NoNumber, two_rests, 1, wrong, 1, 5)
                self.assertRaises(NoNumber, two_rests, 1, 5, 1, wrong)
                self.assertRaises(NoNumber, two_rests, 1, wrong, 2, 5)
                self.assertRaises(NoNumber, two_rests, 1, 5, 2, wrong)
                self.assertRaises(NoNumber, two_rests, 0, wrong, 1, wrong)


if __name__ == "__main__":
    unittest.main()

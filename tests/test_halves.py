"""Points 16 and 17: half papers, judged and found."""

import itertools
import math
import random
import unittest

from made import (
    FIFTY_FIGURES, GREAT_PARTS, GREAT_PRIMES, GREAT_ROOTS, NO_PRIMES, PRIMES, PRIMES_TO_TWELFTH, TWO,
    assert_told_anew, assert_unchanged, half_by_the_words, is_root, made, primes_with_times, shows_by_the_words)
from rootpapers.errors import NoPrime
from rootpapers.halves import half_of, half_shows
from rootpapers.papers import paper_shows

SIXTY = 10 ** 60
THREE = made(3)
FIVE = made(5)
SEVEN = made(7)


def parts_ahead(n):
    return primes_with_times(n - 1, GREAT_PRIMES.get(n, ()))


def root_of(p):
    primes = [q for q, times in parts_ahead(p)]
    return next(g for g in range(1, p) if is_root(g, p, primes))


def half_made(p):
    """The half paper with all parts of p less 1 and a root of p as each base."""
    base = root_of(p)
    return (p, [(made(q), times, base) for q, times in parts_ahead(p)])


def choices(parts):
    return [list(some) for count in range(len(parts) + 1) for some in itertools.combinations(parts, count)]


def product_of(parts):
    return math.prod(q ** times for q, times in parts)


def fewest(p):
    return min(len(some) for some in choices(parts_ahead(p)) if product_of(some) ** 2 > p)


class HalvesCase(unittest.TestCase):
    def assert_shows(self, half):
        self.assertIs(half_shows(half), True, half)

    def assert_shows_not(self, half):
        self.assertIs(half_shows(half), False, half)


class HalfShows(HalvesCase):
    def test_right_ones_of_small_primes(self):
        for p in PRIMES[1:400]:
            self.assert_shows(half_made(p))

    def test_right_ones_of_great_primes(self):
        for p in list(GREAT_PRIMES) + list(PRIMES_TO_TWELFTH):
            self.assert_shows(half_made(p))

    def test_known(self):
        self.assert_shows((3, [(TWO, 1, 2)]))
        self.assert_shows((7, [(THREE, 1, 2)]))
        self.assert_shows((43, [(SEVEN, 1, 2)]))

    def test_parts_left_out_as_far_as_the_square_allows(self):
        for p in PRIMES[1:250] + list(GREAT_PRIMES):
            n, parts = half_made(p)
            for some in choices(list(zip(parts, parts_ahead(p)))):
                right = product_of([pair for part, pair in some]) ** 2 > p
                self.assertIs(half_shows((p, [part for part, pair in some])), right)

    def test_times_left_out_as_far_as_the_square_allows(self):
        for p, q, times in ((257, 2, 8), (65537, 2, 16), (163, 3, 4), (3 * 2 ** 189 + 1, 2, 189)):
            base = root_of(p)
            for fewer in range(1, times + 1):
                self.assertIs(half_shows((p, [(made(q), fewer, base)])), q ** (2 * fewer) > p)

    def test_squares_just_not_above(self):
        # The square is one less than n, and all else is right.
        self.assert_shows_not((17, [(TWO, 2, 3)]))
        self.assert_shows_not((37, [(TWO, 1, 2), (THREE, 1, 2)]))
        self.assert_shows_not((101, [(TWO, 1, 2), (FIVE, 1, 2)]))
        self.assert_shows_not((5, [(TWO, 1, 2)]))

    def test_numbers_that_are_none_fail_by_the_square_alone(self):
        for n, q, times, base in ((49, 3, 1, 18), (121, 5, 1, 3), (125, 2, 2, 57), (361, 3, 2, 28), (341, 5, 1, 2)):
            self.assertEqual(pow(base, n - 1, n), 1)
            self.assertEqual(math.gcd(n, pow(base, (n - 1) // q, n) - 1), 1)
            self.assert_shows_not((n, [(made(q), times, base)]))
        self.assert_shows_not((247, [(TWO, 1, 12), (THREE, 1, 30)]))

    def test_n_not_above_two(self):
        for n in (2, 1, 0, -1, -2, -3, -7, 1 - SIXTY):
            for parts in ([], [(TWO, 1, 1)], [(TWO, 1, 2)], [(THREE, 1, 2)], [(made(191), 2, -3)]):
                self.assert_shows_not((n, parts))
        # All else is right: F is 2 and divides 0, its square is above 1, and by 1 all is 0.
        self.assert_shows_not((1, [(TWO, 1, 0)]))

    def test_a_paper_that_is_not_let_by(self):
        for wrong in (("root", 3, 1, [(TWO, 1)]), ("root", 3, 2, []), ("root", 3, 2, [(TWO, 2)]),
                      ("root", 3, 5, [(TWO, 1)]), ("root", 3, 2, [(("root", 2, 1, []), 1)])):
            self.assert_shows_not((7, [(wrong, 1, 2)]))
            self.assert_shows_not((7, [(TWO, 1, 3), (wrong, 1, 3)]))
        self.assert_shows_not((3, [(("root", 2, 1, []), 1, 2)]))
        self.assert_shows_not((7, [(("root", 6, 5, [(FIVE, 1)]), 1, 3)]))
        for number in (1, 0, -1, -3, -6):
            self.assert_shows_not((7, [(("root", number, 1, []), 1, 3)]))
            self.assert_shows_not((7, [(("root", number, 1, []), 1, 3), (THREE, 1, 3)]))

    def test_numbers_that_are_none_with_a_part_that_is_none(self):
        # All but the part's paper is right.
        for n, q, base in ((9, 8, 8), (15, 14, 14), (25, 12, 7), (49, 12, 18), (49, 16, 19), (45, 44, 17)):
            self.assertTrue((n - 1) % q == 0 and q * q > n and half_base_is_right(n, q, base))
            parts = [(made(r), times) for r, times in parts_ahead(q)]
            for g in range(q + 1):
                self.assert_shows_not((n, [(("root", q, g, parts), 1, base)]))

    def test_numbers_that_do_not_rise(self):
        self.assert_shows((13, [(TWO, 2, 2), (THREE, 1, 2)]))
        self.assert_shows_not((13, [(THREE, 1, 2), (TWO, 2, 2)]))
        self.assert_shows_not((13, [(TWO, 1, 2), (TWO, 1, 2), (THREE, 1, 2)]))
        self.assert_shows_not((13, [(TWO, 1, 2), (TWO, 1, 2)]))
        self.assert_shows_not((19, [(THREE, 1, 2), (THREE, 1, 2)]))
        for p in (31, 211, 2 ** 89 - 1, FIFTY_FIGURES):
            n, parts = half_made(p)
            self.assert_shows_not((n, list(reversed(parts))))

    def test_times_below_one(self):
        for times in (0, -1, -200):
            self.assert_shows_not((13, [(TWO, 2, 2), (THREE, times, 2)]))
            self.assert_shows_not((13, [(TWO, 2, 2), (THREE, 1, 2), (FIVE, times, 0)]))
            self.assert_shows_not((13, [(TWO, times, 2)]))

    def test_products_that_do_not_divide(self):
        self.assert_shows_not((13, [(TWO, 3, 2)]))
        self.assert_shows_not((13, [(TWO, 200, 2)]))
        self.assert_shows_not((13, [(TWO, 2, 2), (THREE, 2, 2)]))
        self.assert_shows_not((13, [(TWO, 2, 2), (THREE, 1, 2), (FIVE, 1, 2)]))
        self.assert_shows_not((13, [(SEVEN, 1, 2)]))
        self.assert_shows_not((13, [(made(13), 1, 2)]))
        for p in GREAT_PRIMES:
            n, parts = half_made(p)
            for k, (paper, times, base) in enumerate(parts):
                self.assert_shows_not((n, parts[:k] + [(paper, times + 1, base)] + parts[k + 1:]))
                self.assert_shows_not((n, parts[:k] + [(paper, 200, base)] + parts[k + 1:]))

    def test_no_parts(self):
        for n in (-3, 0, 1, 2, 3, 4, 5, 7, FIFTY_FIGURES, SIXTY - 1):
            self.assert_shows_not((n, []))

    def test_the_whole_power_is_not_one(self):
        # All else is right: nothing above 1 divides both n and the lesser power, less 1.
        for n, paper, times, base in ((7, THREE, 1, 0), (7, THREE, 1, 7), (7, THREE, 1, -7), (21, FIVE, 1, 3)):
            self.assertEqual(math.gcd(n, base ** ((n - 1) // paper[1]) - 1), 1)
            self.assert_shows_not((n, [(paper, times, base)]))

    def test_something_divides_both(self):
        self.assert_shows_not((7, [(THREE, 1, 1)]))
        self.assert_shows_not((7, [(THREE, 1, 6)]))
        self.assert_shows_not((13, [(TWO, 2, 3)]))
        # Numbers that are none, whose lesser powers are not 1, though by a part of them.
        for n, parts in ((561, [(2, 4, 5), (5, 1, 2)]), (645, [(2, 2, 2), (7, 1, 2)]), (946, [(5, 1, 9), (7, 1, 9)]),
                         (1105, [(2, 4, 3), (3, 1, 2)]), (2821, [(2, 2, 2), (3, 1, 3), (5, 1, 2)])):
            for q, times, base in parts:
                self.assertEqual(pow(base, n - 1, n), 1)
                self.assertNotEqual(pow(base, (n - 1) // q, n), 1)
            self.assert_shows_not((n, [(made(q), times, base) for q, times, base in parts]))

    def test_each_base_counts(self):
        for p in (31, 211, 2311, 2 ** 89 - 1, FIFTY_FIGURES):
            n, parts = half_made(p)
            for k, (paper, times, base) in enumerate(parts):
                for wrong in (0, 1, n, n + 1, -n, 1 - n):
                    self.assert_shows_not((n, parts[:k] + [(paper, times, wrong)] + parts[k + 1:]))

    def test_bases_of_any_sign_and_size(self):
        for p in PRIMES[1:40]:
            parts = parts_ahead(p)
            q, times = max(parts, key=lambda part: part[0] ** part[1])
            for base in range(-2 * p, 2 * p + 1):
                half = (p, [(made(q), times, base)])
                self.assertIs(half_shows(half), half_by_the_words(half))
        for p in (7, 191, 2 ** 89 - 1, FIFTY_FIGURES):
            n, parts = half_made(p)
            for apart in (-p, p, -5 * p):
                self.assert_shows((n, [(paper, times, base + apart) for paper, times, base in parts]))
        self.assert_shows((7, [(THREE, 1, -3)]))
        self.assert_shows_not((7, [(THREE, 1, -1)]))

    def test_no_number_that_is_none_with_any_bases(self):
        for n in [n for n in range(4, 800) if n not in PRIMES]:
            parts = parts_ahead(n)
            good = [[base for base in range(n) if half_base_is_right(n, q, base)] for q, times in parts]
            for some in choices(list(zip(parts, good))):
                half = (n, [(made(q), times, (bases or [2])[0]) for (q, times), bases in some])
                self.assert_shows_not(half)

    def test_small_things_of_every_form(self):
        papers = [TWO, THREE, FIVE, ("root", 3, 1, [(TWO, 1)]), ("root", 4, 3, [(THREE, 1)]), ("root", -2, 1, [])]
        some = list(itertools.product(papers, (-1, 0, 1, 2), (-1, 2)))
        for parts in [[]] + [[one] for one in some] + [[one, other] for one in some for other in some]:
            for n in range(-3, 14):
                half = (n, parts)
                found = half_shows(half)
                if found is not half_by_the_words(half):
                    self.fail(f"half_shows({half})")
                self.assertTrue(not found or n in PRIMES)

    def test_halves_spoiled_at_any_place(self):
        chosen = random.Random(16)
        told = {True: 0, False: 0}
        for k in range(5000):
            half = spoiled(chosen, half_made(chosen.choice(PRIMES[1:300])))
            found = half_shows(half)
            if found is not half_by_the_words(half):
                self.fail(f"half_shows({half})")
            self.assertTrue(not found or half[0] in PRIMES)
            told[found] += 1
        self.assertGreater(min(told.values()), 300)

    def test_sixty_figures_and_two_hundred_times(self):
        great = ("root", SIXTY - 1, 2, [(TWO, 200)])
        self.assert_shows_not((SIXTY - 1, [(great, 200, SIXTY - 1)]))
        self.assert_shows_not((SIXTY - 1, [(made(FIFTY_FIGURES), 200, 1 - SIXTY)]))
        self.assert_shows_not((3 * 2 ** 189 + 1, [(TWO, 200, 11)]))

    def test_changes_nothing(self):
        for half in (half_made(999999999989), (-5, [(THREE, -1, 0), (TWO, 0, -5)]), half_made(FIFTY_FIGURES)):
            assert_unchanged(self, half_shows, half)


def half_base_is_right(n, q, base):
    return pow(base, n - 1, n) == 1 and math.gcd(n, pow(base, (n - 1) // q, n) - 1) == 1


def spoiled(chosen, half):
    """The half paper with one thing made otherwise; at times it stays right."""
    n, parts = half
    parts = list(parts)
    place = chosen.randrange(len(parts))
    paper, times, base = parts[place]
    what = chosen.randrange(7)
    if what == 0:
        n = n + chosen.choice((-2, -1, 1, 2))
    elif what == 1:
        parts[place] = (paper, times + chosen.choice((-1, 1)), base)
    elif what == 2:
        parts[place] = (paper, times, chosen.randrange(-n, 2 * n))
    elif what == 3:
        parts.pop(place)
    elif what == 4:
        parts.insert(place, (made(chosen.choice(PRIMES[:5])), chosen.randrange(-1, 2), base))
    elif what == 5:
        chosen.shuffle(parts)
    else:
        parts[place] = (("root", chosen.choice(PRIMES[:9]), 2, [(TWO, 1), (THREE, 1)]), times, base)
    return (n, parts)


class HalfOf(HalvesCase):
    def assert_half(self, p):
        half = half_of(p)
        self.assertIs(type(half), tuple)
        self.assertEqual(len(half), 2)
        self.assertIs(type(half[0]), int)
        self.assertEqual(half[0], p)
        self.assertIs(type(half[1]), list)
        for part in half[1]:
            self.assertIs(type(part), tuple)
            paper, times, base = part
            self.assertIs(type(times), int)
            self.assertIs(type(base), int)
            self.assertIs(shows_by_the_words(paper), True)
            self.assertIs(paper_shows(paper), True)
        self.assertIs(half_by_the_words(half), True)
        self.assert_shows(half)
        self.assertEqual(len(half[1]), fewest(p))

    def test_small_primes(self):
        for p in PRIMES[1:]:
            self.assert_half(p)

    def test_primes_below_ten_to_the_twelfth(self):
        for p in PRIMES_TO_TWELFTH:
            self.assert_half(p)
        for p, g in GREAT_ROOTS:
            self.assert_half(p)

    def test_one_great_part_is_enough(self):
        for p in GREAT_PARTS:
            self.assertEqual(len(half_of(p)[1]), 1)

    def test_powers_of_small_primes_count_as_wholes(self):
        # 7681 is one more than 2 to the 9th times 3 and 5: the two alone is enough, though the least prime.
        for p in (7681, 12289, 65537, 40961, 3 * 2 ** 30 + 1):
            self.assertEqual(len(half_of(p)[1]), 1)

    def test_several_parts(self):
        # One more than 2 * 3 * 5 * 7, and so on: no one prime is great enough.
        for p, count in ((31, 2), (211, 2), (2311, 2), (200560490131, 5)):
            self.assertEqual(fewest(p), count)
            self.assertEqual(len(half_of(p)[1]), count)

    def test_refuses_what_is_no_prime_above_two(self):
        for n in (2,) + NO_PRIMES:
            with self.subTest(n=n):
                self.assertRaises(NoPrime, half_of, n)
        for n in range(-50, 2000):
            if n == 2 or n not in PRIMES:
                self.assertRaises(NoPrime, half_of, n)

    def test_told_anew_at_each_asking(self):
        for p in (3, 7, 191, 2311, 999999999989, 200560490131):
            assert_told_anew(self, half_of, p)


if __name__ == "__main__":
    unittest.main()

"""Points 12 to 15: papers of primes, judged, counted and found."""

import itertools
import random
import unittest

from made import (
    FIFTY_FIGURES, GREAT_PARTS, GREAT_PRIMES, GREAT_ROOTS, NO_PRIMES, PRIMES, PRIMES_TO_TWELFTH, TWO,
    assert_told_anew, assert_unchanged, kinds_in, made, number_by_the_words, primes_with_times, shows_by_the_words)
from rootpapers.errors import NoPrime
from rootpapers.factors import prime_parts
from rootpapers.papers import paper_depth, paper_number, paper_of, paper_shows, papers_within

SIXTY = 10 ** 60
THREE = made(3)
FIVE = made(5)
SEVEN = made(7)
SMALL = [made(p) for p in PRIMES[:60]]
CARMICHAELS = (561, 1105, 1729, 2465, 2821, 6601, 8911, 41041, 825265)


def chain(length, inner=TWO):
    """A paper with so many within one another; it is not let by where it is long."""
    paper = inner
    for k in range(length - 1):
        paper = ("root", 10 * k - 30, k, [(paper, k)])
    return paper


def changed(paper, **changes):
    word, p, g, parts = paper
    return (word, changes.get("p", p), changes.get("g", g), changes.get("parts", parts))


class PapersCase(unittest.TestCase):
    def assert_number(self, found, due):
        self.assertIs(type(found), int)
        self.assertEqual(found, due)

    def assert_shows(self, paper):
        self.assertIs(paper_shows(paper), True, paper)

    def assert_shows_not(self, paper):
        self.assertIs(paper_shows(paper), False, paper)


class PaperNumber(PapersCase):
    def test_of_two(self):
        self.assert_number(paper_number(TWO), 2)

    def test_of_a_root(self):
        for p in (3, 13, 2 ** 127 - 1, FIFTY_FIGURES):
            self.assert_number(paper_number(made(p)), p)

    def test_of_papers_that_are_not_let_by(self):
        for p in (2, 1, 0, -1, -13, 15, SIXTY - 1, 1 - SIXTY):
            self.assert_number(paper_number(("root", p, 7, [])), p)
            self.assert_number(paper_number(("root", p, 2, [(THREE, 5)])), p)


class PaperShows(PapersCase):
    def test_two(self):
        self.assert_shows(TWO)

    def test_right_papers_of_small_primes(self):
        for p in PRIMES[:700]:
            self.assert_shows(made(p))

    def test_every_root_of_small_primes_and_no_other(self):
        for paper in SMALL[1:]:
            p = paper[1]
            due = [g for g in range(1, p) if len({pow(g, k, p) for k in range(p - 1)}) == p - 1]
            found = [g for g in range(-2 * p, 2 * p + 1) if paper_shows(changed(paper, g=g))]
            self.assertEqual(found, due)

    def test_right_papers_of_great_primes(self):
        for p in GREAT_PRIMES:
            self.assert_shows(made(p))
        for p in PRIMES_TO_TWELFTH:
            self.assert_shows(made(p))

    def test_p_not_above_two(self):
        # All else is right of the first one: g from 1 to 1, the empty product 1, and 1 to the 1 is 1 by 2.
        self.assert_shows_not(("root", 2, 1, []))
        for p in (2, 1, 0, -1, -2, -3, -13, 1 - SIXTY):
            for g in (-1, 0, 1, 2, p - 1):
                for parts in ([], [(TWO, 1)], [(TWO, 2), (THREE, 1)], [(TWO, 0)]):
                    self.assert_shows_not(("root", p, g, parts))

    def test_g_out_of_bounds(self):
        for p in (3, 5, 7, 13, 191, 2 ** 89 - 1, FIFTY_FIGURES):
            paper = made(p)
            for g in (0, -1, -paper[2], paper[2] - p, paper[2] + p, p, p + 1, 2 * p + paper[2]):
                self.assert_shows_not(changed(paper, g=g))

    def test_g_at_its_bounds(self):
        self.assert_shows(("root", 3, 2, [(TWO, 1)]))
        self.assert_shows_not(("root", 3, 1, [(TWO, 1)]))
        self.assert_shows_not(("root", 13, 1, [(TWO, 2), (THREE, 1)]))
        self.assert_shows_not(("root", 13, 12, [(TWO, 2), (THREE, 1)]))

    def test_a_part_whose_paper_is_not_let_by(self):
        for wrong in (changed(THREE, g=1), changed(THREE, g=0), changed(THREE, g=5), changed(THREE, parts=[]),
                      ("root", 3, 2, [(TWO, 2)]), ("root", 3, 2, [(TWO, 1), (TWO, 0)])):
            self.assert_shows_not(("root", 13, 2, [(TWO, 2), (wrong, 1)]))
            # Deeper down, too: 79 is one more than 2 * 3 * 13.
            within = ("root", 13, 2, [(TWO, 2), (wrong, 1)])
            self.assert_shows_not(("root", 79, 3, [(TWO, 1), (THREE, 1), (within, 1)]))
        self.assert_shows(("root", 79, 3, [(TWO, 1), (THREE, 1), (made(13), 1)]))

    def test_a_two_that_is_no_two(self):
        self.assert_shows_not(("root", 3, 2, [(("root", 2, 1, []), 1)]))

    def test_parts_that_are_no_primes(self):
        forged = ("root", 35, 2, [(TWO, 1), (made(17), 1)])
        # Of the number 561, which is none, all else is right for some g.
        self.assertTrue([g for g in range(1, 561) if pow(g, 560, 561) == 1
                         and pow(g, 280, 561) != 1 and pow(g, 16, 561) != 1])
        for g in range(1, 561):
            self.assert_shows_not(("root", 561, g, [(TWO, 4), (forged, 1)]))
        for g in range(1, 5):
            self.assert_shows_not(("root", 5, g, [(("root", 4, 3, [(THREE, 1)]), 1)]))
        for g in range(1, 7):
            self.assert_shows_not(("root", 7, g, [(("root", 1, 1, []), 5), (TWO, 1), (THREE, 1)]))
            self.assert_shows_not(("root", 7, g, [(("root", -2, 1, []), 1), (("root", -3, 1, []), 1)]))
            self.assert_shows_not(("root", 7, g, [(("root", 0, 1, []), 1), (TWO, 1), (THREE, 1)]))
            self.assert_shows_not(("root", 7, g, [(("root", 6, 5, [(FIVE, 1)]), 1)]))

    def test_numbers_that_do_not_rise(self):
        self.assert_shows(("root", 13, 2, [(TWO, 2), (THREE, 1)]))
        self.assert_shows_not(("root", 13, 2, [(THREE, 1), (TWO, 2)]))
        self.assert_shows_not(("root", 13, 2, [(TWO, 1), (TWO, 1), (THREE, 1)]))
        self.assert_shows_not(("root", 13, 2, [(TWO, 1), (THREE, 1), (TWO, 1)]))
        self.assert_shows_not(("root", 19, 2, [(TWO, 1), (THREE, 1), (THREE, 1)]))
        for p in (31, 211, 2311, 2 ** 89 - 1, FIFTY_FIGURES):
            paper = made(p)
            for k in range(len(paper[3]) - 1):
                parts = list(paper[3])
                parts[k], parts[k + 1] = parts[k + 1], parts[k]
                self.assert_shows_not(changed(paper, parts=parts))

    def test_times_below_one(self):
        self.assert_shows_not(("root", 13, 2, [(TWO, 2), (THREE, 1), (FIVE, 0)]))
        self.assert_shows_not(("root", 13, 2, [(TWO, 2), (THREE, 1), (FIVE, -1)]))
        self.assert_shows_not(("root", 5, 2, [(TWO, 2), (THREE, 0)]))
        self.assert_shows_not(("root", 7, 3, [(TWO, 0), (THREE, 1)]))
        self.assert_shows_not(("root", 7, 3, [(TWO, 1), (THREE, -200)]))
        self.assert_shows_not(("root", 17, 3, [(TWO, -4)]))

    def test_products_that_are_others(self):
        for p in [5, 7, 13, 17, 31, 61, 211, 2311, 2 ** 89 - 1, 3 * 2 ** 189 + 1, FIFTY_FIGURES]:
            paper = made(p)
            for k, (part, times) in enumerate(paper[3]):
                ahead, behind = paper[3][:k], paper[3][k + 1:]
                self.assert_shows_not(changed(paper, parts=ahead + behind))
                self.assert_shows_not(changed(paper, parts=ahead + [(part, times)] * 2 + behind))
                for wrong in (times - 1, times + 1, times + 200):
                    self.assert_shows_not(changed(paper, parts=ahead + [(part, wrong)] + behind))
            self.assert_shows_not(changed(paper, parts=[]))
            # A part too many, in its place among the others.
            if (p - 1) % 13 != 0:
                more = sorted(paper[3] + [(made(13), 1)], key=lambda part: number_by_the_words(part[0]))
                self.assert_shows_not(changed(paper, parts=more))

    def test_the_whole_power_is_not_one(self):
        # All else is right: no lesser power of these is 1 by numbers that are no primes.
        for n, g in ((9, 2), (15, 2), (21, 2), (2047, 3), (1373653, 5)):
            parts = primes_with_times(n - 1)
            self.assertNotIn(1, [pow(g, (n - 1) // q, n) for q, times in parts])
            self.assertNotEqual(pow(g, n - 1, n), 1)
            self.assert_shows_not(("root", n, g, [(made(q), times) for q, times in parts]))

    def test_a_power_comes_to_one_ahead(self):
        parts = [(TWO, 1), (THREE, 1), (FIVE, 1)]
        for g in range(1, 31):
            orders = [k for k in range(1, 31) if pow(g, k, 31) == 1]
            self.assertIs(paper_shows(("root", 31, g, parts)), orders[0] == 30)
        # Each of these fails by one of the parts' numbers alone: 2, 3 and 5.
        for g, order in ((9, 15), (15, 10), (6, 6)):
            self.assertEqual([k for k in range(1, 31) if pow(g, k, 31) == 1][0], order)
            self.assert_shows_not(("root", 31, g, parts))

    def test_great_primes_with_powers_of_their_roots(self):
        for p in GREAT_PRIMES:
            paper = made(p)
            for part, times in paper[3]:
                self.assert_shows_not(changed(paper, g=pow(paper[2], number_by_the_words(part), p)))
            self.assert_shows(changed(paper, g=pow(paper[2], -1, p)))

    def test_no_parts_at_all(self):
        for p in (2, 3, 4, 5, 13, 2 ** 127 - 1, SIXTY - 1, 0, -5):
            for g in (1, 2, p - 1):
                self.assert_shows_not(("root", p, g, []))

    def test_no_number_that_is_none_with_any_g(self):
        for n in list(range(4, 240)) + list(CARMICHAELS[:3]):
            if n not in PRIMES:
                parts = [(made(q), times) for q, times in primes_with_times(n - 1)]
                for g in range(n + 1):
                    self.assert_shows_not(("root", n, g, parts))
        for n in CARMICHAELS:
            parts = [(made(q), times) for q, times in primes_with_times(n - 1)]
            for g in range(1, 60):
                self.assert_shows_not(("root", n, g, parts))

    def test_small_things_of_every_form(self):
        inner = [TWO, THREE, FIVE, changed(THREE, g=1), ("root", 4, 3, [(THREE, 1)]), ("root", -2, 1, [])]
        some = list(itertools.product(inner, (-1, 0, 1, 2)))
        lists = [[]] + [[one] for one in some] + [[one, other] for one in some for other in some]
        for parts in lists:
            for p in range(-3, 14):
                for g in (-1, 1, 2, 3):
                    paper = ("root", p, g, parts)
                    found = paper_shows(paper)
                    if found is not shows_by_the_words(paper):
                        self.fail(f"paper_shows({paper})")
                    self.assertTrue(not found or p in PRIMES)

    def test_papers_spoiled_at_any_place(self):
        chosen = random.Random(12)
        told = {True: 0, False: 0}
        for k in range(6000):
            paper = spoiled(chosen, made(chosen.choice(PRIMES[1:400])))
            found = paper_shows(paper)
            if found is not shows_by_the_words(paper):
                self.fail(f"paper_shows({paper})")
            self.assertTrue(not found or paper_number(paper) in PRIMES)
            told[found] += 1
        self.assertGreater(min(told.values()), 300)

    def test_sixty_figures_and_two_hundred_times(self):
        great = ("root", SIXTY - 1, SIXTY - 2, [(TWO, 200)])
        self.assert_shows_not(great)
        self.assert_shows_not(("root", SIXTY - 3, 2, [(TWO, 200), (great, 200)]))
        self.assert_shows_not(("root", SIXTY - 3, 2, [(made(FIFTY_FIGURES), 200)] * 20))
        self.assert_shows_not(("root", 1 - SIXTY, 1 - SIXTY, [(great, -200)]))
        self.assert_shows_not(("root", 3 * 2 ** 189 + 1, 11, [(TWO, 200), (THREE, 200)]))
        self.assert_shows(("root", 3 * 2 ** 189 + 1, made(3 * 2 ** 189 + 1)[2], [(TWO, 189), (THREE, 1)]))

    def test_many_papers_within(self):
        primes = [made(p) for p in PRIMES[1:30]]
        self.assert_shows_not(("root", SIXTY - 1, 2, [(TWO, 1)] + [(paper, 1) for paper in primes]))

    def test_twelve_within_one_another(self):
        paper = made(138197)
        self.assertEqual(paper_depth(paper), 11)
        k = 2
        while not right_paper(k * 138197 + 1, made_parts(k, paper)):
            k += 2
        self.assert_shows(right_paper(k * 138197 + 1, made_parts(k, paper)))

    def test_changes_nothing(self):
        for paper in (TWO, made(999999999989), ("root", -5, 0, [(THREE, -1), (TWO, 0)]), chain(12)):
            assert_unchanged(self, paper_shows, paper)
            assert_unchanged(self, paper_number, paper)
            assert_unchanged(self, papers_within, paper)
            assert_unchanged(self, paper_depth, paper)

    def test_what_is_changed_later_is_judged_anew(self):
        parts = [(TWO, 2), (THREE, 1)]
        paper = ("root", 13, 2, parts)
        self.assert_shows(paper)
        parts.pop()
        self.assert_shows_not(paper)
        parts.append((THREE, 1))
        self.assert_shows(paper)


def made_parts(k, paper):
    return [(made(q), times) for q, times in primes_with_times(k)] + [(paper, 1)]


def right_paper(p, parts):
    """A right paper of p with these parts, or None."""
    for g in range(2, 60):
        if shows_by_the_words(("root", p, g, parts)):
            return ("root", p, g, parts)
    return None


def spoiled(chosen, paper):
    """The paper with one thing made otherwise, perhaps deep in it; at times it stays right."""
    if paper == TWO:
        return chosen.choice([TWO, THREE, ("root", 2, 1, [])])
    word, p, g, parts = paper
    parts = list(parts)
    place = chosen.randrange(len(parts))
    part, times = parts[place]
    what = chosen.randrange(10)
    if what < 4:
        parts[place] = (spoiled(chosen, part), times)
    elif what == 4:
        p = p + chosen.choice((-2, -1, 1, 2))
    elif what in (5, 6):
        g = chosen.randrange(-1, p + 2)
    elif what == 7:
        parts[place] = (part, times + chosen.choice((-1, 1)))
    elif what == 8:
        parts.pop(place)
    else:
        parts.insert(place, (chosen.choice(SMALL), chosen.randrange(-1, 2)))
    return (word, p, g, parts)


class PapersWithin(PapersCase):
    def test_known(self):
        self.assert_number(papers_within(TWO), 1)
        self.assert_number(papers_within(THREE), 2)
        self.assert_number(papers_within(FIVE), 2)
        self.assert_number(papers_within(SEVEN), 4)
        self.assert_number(papers_within(made(191)), 8)

    def test_a_part_once_whatever_its_times(self):
        for times in (-200, -1, 0, 1, 2, 7, 200):
            self.assert_number(papers_within(("root", 7, 3, [(TWO, times), (THREE, times)])), 4)

    def test_a_paper_that_stands_in_several_parts(self):
        self.assert_number(papers_within(("root", 7, 3, [(THREE, 1), (THREE, 1), (THREE, 2)])), 7)
        both = ("root", 9, 1, [(SEVEN, 1), (SEVEN, 1)])
        self.assert_number(papers_within(both), 9)
        self.assert_number(papers_within(("root", 9, 1, [(both, 1), (both, 3), (TWO, 1)])), 20)

    def test_no_parts(self):
        self.assert_number(papers_within(("root", 7, 3, [])), 1)
        self.assert_number(papers_within(("root", 7, 3, [(("root", 3, 2, []), 1)])), 2)

    def test_forty_within_one_another(self):
        for length in range(1, 41):
            self.assert_number(papers_within(chain(length)), length)
            self.assert_number(papers_within(chain(length, ("root", 5, 1, []))), length)

    def test_two_hundred(self):
        self.assert_number(papers_within(("root", SIXTY - 1, 2, [(TWO, 1)] * 199)), 200)


class PaperDepth(PapersCase):
    def test_known(self):
        self.assert_number(paper_depth(TWO), 1)
        self.assert_number(paper_depth(THREE), 2)
        self.assert_number(paper_depth(FIVE), 2)
        self.assert_number(paper_depth(SEVEN), 3)
        self.assert_number(paper_depth(made(191)), 4)
        self.assert_number(paper_depth(made(2879)), 9)

    def test_the_deepest_part_at_any_place(self):
        deep = made(191)
        for parts in itertools.permutations([(TWO, 1), (deep, 1), (THREE, 1), (SEVEN, 3)]):
            self.assert_number(paper_depth(("root", 5, 1, list(parts))), 5)

    def test_no_parts(self):
        self.assert_number(paper_depth(("root", 7, 3, [])), 1)
        self.assert_number(paper_depth(("root", 7, 3, [(("root", 3, 2, []), 1)])), 2)
        self.assert_number(paper_depth(("root", 7, 3, [(("root", 3, 2, []), 1), (THREE, 0)])), 3)

    def test_forty_within_one_another(self):
        for length in range(1, 41):
            self.assert_number(paper_depth(chain(length)), length)
            self.assert_number(paper_depth(chain(length, ("root", 5, 1, []))), length)


class PaperOf(PapersCase):
    def assert_paper(self, p):
        found = paper_of(p)
        self.assertEqual(found, made(p))
        self.assertEqual(kinds_in(found), kinds_in(made(p)))
        self.assert_shows(found)

    def test_two(self):
        self.assertEqual(paper_of(2), ("two",))
        self.assertIs(type(paper_of(2)), tuple)

    def test_known(self):
        self.assertEqual(paper_of(3), ("root", 3, 2, [(("two",), 1)]))
        self.assertEqual(paper_of(13), ("root", 13, 2, [(("two",), 2), (("root", 3, 2, [(("two",), 1)]), 1)]))

    def test_small_primes(self):
        for p in PRIMES:
            self.assert_paper(p)

    def test_primes_below_ten_to_the_twelfth(self):
        for p in PRIMES_TO_TWELFTH:
            self.assert_paper(p)

    def test_great_least_roots(self):
        for p, g in GREAT_ROOTS:
            self.assert_paper(p)
            self.assert_number(paper_of(p)[2], g)

    def test_great_primes_in_the_number_ahead(self):
        for p in GREAT_PARTS:
            self.assertGreater(paper_number(paper_of(p)[3][-1][0]), 10 ** 6)

    def test_refuses_what_is_no_prime(self):
        for n in NO_PRIMES:
            with self.subTest(n=n):
                self.assertRaises(NoPrime, paper_of, n)
        for n in range(-50, 2000):
            if n not in PRIMES:
                self.assertRaises(NoPrime, paper_of, n)

    def test_told_anew_at_each_asking(self):
        for p in (3, 7, 191, 2311, 999999999989):
            assert_told_anew(self, paper_of, p)

    def test_what_is_told_may_be_handed_in(self):
        for p in PRIMES[:300]:
            self.assert_number(paper_number(paper_of(p)), p)
            self.assert_number(papers_within(paper_of(p)), papers_within(made(p)))


class PrimeParts(PapersCase):
    def test_small_numbers(self):
        for n in range(1, 3000):
            self.assertEqual(prime_parts(n), primes_with_times(n))

    def test_great_numbers(self):
        for n in (2 ** 39, 10 ** 12 - 1, 101987 * 101999, 101999 ** 2, 2 * 101999 * 4899079, 999999999989):
            self.assertEqual(prime_parts(n), primes_with_times(n))


if __name__ == "__main__":
    unittest.main()

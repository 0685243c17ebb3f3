"""Sums of squares: of two, in all ways, or barred by a prime; of four."""

from rootpapers.errors import NoPrime
from rootpapers.factors import prime_parts
from rootpapers.judged import is_prime
from rootpapers.papers import paper_number, paper_of, paper_shows
from rootpapers.parts import divisors_of
from rootpapers.powers import divided_out, refuse_below, whole_root
from rootpapers.squares import roots_by


def all_sums(n):
    refuse_below(0, n)
    return sums_from(0, n)


def sums_from(least, n):
    sums = []
    a = least
    b = whole_root(n)
    while a <= b:
        squares = a * a + b * b
        if squares == n:
            sums.append((a, b))
        if squares > n:
            b = b - 1
        else:
            a = a + 1
    return sums


def sum_told(n):
    refuse_below(0, n)
    # Of 0 no primes are told here, so it comes to its sum.
    for prime, times in prime_parts(n):
        if prime % 4 == 3 and times % 2 == 1:
            return ("bar", paper_of(prime), times)
    return ("sum", all_sums(n)[0])


def bar_shows(n, bar):
    paper = bar[1]
    times = bar[2]
    if n < 1 or times % 2 == 0 or not paper_shows(paper):
        return False
    prime = paper_number(paper)
    return prime % 4 == 3 and divided_out(prime, n)[1] == times


def root_below(p):
    if p % 4 != 1 or not is_prime(p):
        raise NoPrime(f"{p} is no prime that leaves 1 by 4")
    return roots_by(-1, p)[0]


def way_down(p):
    rests = [p, root_below(p)]
    while rests[-1] != 0:
        rests.append(rests[-2] % rests[-1])
    return rests


def sum_of_prime(p):
    rests = way_down(p)
    place = 0
    while rests[place] * rests[place] > p:
        place = place + 1
    return (rests[place + 1], rests[place])


def count_sums(n):
    more = 0
    for divisor in divisors_of(n):
        if divisor % 4 == 1:
            more = more + 1
        if divisor % 4 == 3:
            more = more - 1
    return 4 * more


def four_squares(n):
    refuse_below(0, n)
    if n == 0:
        return (0, 0, 0, 0)
    # Odd squares leave 1 by 8, so that here all four are even: halved they are those of the quarter.
    if n % 8 == 0:
        return tuple([2 * root for root in four_squares(n // 4)])
    least = 0
    found = three_from(least, n)
    while found is None:
        least = least + 1
        found = three_from(least, n - least * least)
    return (least, found[0], found[1], found[2])


def three_from(least, n):
    root = least
    while 3 * root * root <= n:
        sums = sums_from(root, n - root * root)
        if sums != []:
            return (root, sums[0][0], sums[0][1])
        root = root + 1
    return None

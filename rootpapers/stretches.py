"""Stretches: all primes from one number to another, and stretches told number by number."""

from rootpapers.factors import comes_early, primes_of
from rootpapers.judged import is_prime, least_part
from rootpapers.parts import least_root
from rootpapers.powers import power_by, refuse_below, whole_root

# How many numbers are sieved in the time in which one is judged, about.
SIEVED_FOR_ONE = 20


# A sieve goes through all numbers up to high, so that it is worth its time for a long stretch alone.
def primes_in(low, high):
    if high < SIEVED_FOR_ONE * (high - low):
        return [prime for prime in primes_to(high) if prime >= low]
    return [n for n in range(max(low, 2), high + 1) if is_prime(n)]


def primes_to(top):
    if top < 2:
        return []
    left = [True] * (top + 1)
    for n in range(2, whole_root(top) + 1):
        if left[n]:
            for multiple in range(n * n, top + 1, n):
                left[multiple] = False
    return [n for n in range(2, top + 1) if left[n]]


def count_primes(n):
    return len(primes_to(n))


def prime_at(k):
    refuse_below(0, k)
    top = 100
    primes = primes_to(top)
    while len(primes) <= k:
        top = top * 2
        primes = primes_to(top)
    return primes[k]


def next_prime(n):
    number = max(n + 1, 2)
    while not is_prime(number):
        number = number + 1
    return number


def last_prime(n):
    number = n - 1
    while number >= 2:
        if is_prime(number):
            return number
        number = number - 1
    return None


def stretch_told(low, high):
    return [told_row(n) for n in range(low, high + 1)]


def told_row(n):
    if n < 2:
        return (n, "small", 0)
    if is_prime(n):
        return (n, "prime", least_root(n))
    return (n, "part", least_part(n))


def stretch_shows(low, high, stretch):
    # Asked first, so that a list is not held against a far longer stretch.
    if len(stretch) != max(high - low + 1, 0):
        return False
    n = low
    for row in stretch:
        if row[0] != n or not row_shows(n, row[1], row[2]):
            return False
        n = n + 1
    return True


def row_shows(n, word, thing):
    if n < 2:
        return word == "small" and thing == 0
    if word == "prime":
        return 1 <= thing <= n - 1 and has_whole_order(thing, n)
    return word == "part" and 1 < thing < n and n % thing == 0


def has_whole_order(g, n):
    return power_by(g, n - 1, n) == 1 and not comes_early(g, n, n - 1, primes_of(n - 1))

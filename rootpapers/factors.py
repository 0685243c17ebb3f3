"""The primes of a number, and bases whose powers don't come to 1 too early."""

from rootpapers.judged import least_part
from rootpapers.powers import common_of, divided_out, power_by


def prime_parts(n):
    parts = []
    left = n
    while left > 1:
        prime = least_part(left)
        left_and_times = divided_out(prime, left)
        parts.append((prime, left_and_times[1]))
        left = left_and_times[0]
    return parts


def primes_of(n):
    return [prime for prime, times in prime_parts(n)]


def comes_early(base, n, exponent, primes):
    for prime in primes:
        if power_by(base, exponent // prime, n) == 1:
            return True
    return False


# From 0 on, for by 1 it is 0 that is asked for; by all greater numbers 0 is passed over.
def least_late(n, exponent, primes):
    base = 0
    while common_of(base, n) != 1 or comes_early(base, n, exponent, primes):
        base = base + 1
    return base

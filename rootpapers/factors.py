"""The primes of a number, and bases whose powers don't come to 1 too early."""

from rootpapers.judged import least_part
from rootpapers.powers import power_by


def prime_parts(n):
    parts = []
    left = n
    while left > 1:
        prime = least_part(left)
        times = 0
        while left % prime == 0:
            left = left // prime
            times = times + 1
        parts.append((prime, times))
    return parts


def comes_early(base, n, primes):
    for prime in primes:
        if power_by(base, (n - 1) // prime, n) == 1:
            return True
    return False


def least_late(p, primes):
    # All powers of 1 are early.
    base = 2
    while comes_early(base, p, primes):
        base = base + 1
    return base

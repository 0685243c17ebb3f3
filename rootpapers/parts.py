"""The parts of a number, its divisors, and orders and roots by it."""

from rootpapers.errors import NoInverse
from rootpapers.factors import least_late, prime_parts, primes_of
from rootpapers.judged import refuse_no_prime
from rootpapers.papers import paper_of
from rootpapers.powers import common_of, power_by, refuse_below


def parts_of(n):
    refuse_below(1, n)
    return prime_parts(n)


def parts_shown(n):
    return [(paper_of(prime), times) for prime, times in parts_of(n)]


def divisors_of(n):
    divisors = [1]
    for prime, times in parts_of(n):
        divisors = with_powers(divisors, prime, times)
    return sorted(divisors)


def with_powers(divisors, prime, times):
    found = list(divisors)
    layer = divisors
    for step in range(times):
        layer = [divisor * prime for divisor in layer]
        found.extend(layer)
    return found


def divisors_sum(n):
    return sum(divisors_of(n))


def apart_from(n):
    count = n
    for prime, times in parts_of(n):
        count = count // prime * (prime - 1)
    return count


def order_by(a, n):
    refuse_below(1, n)
    if common_of(a, n) != 1:
        raise NoInverse(f"no power of {a} is 1 by {n}")
    order = apart_from(n)
    for prime in primes_of(order):
        while order % prime == 0 and power_by(a, order // prime, n) == 1:
            order = order // prime
    return order


def least_root(p):
    refuse_no_prime(p)
    return root_by(p)


def root_by(n):
    if not has_roots(n):
        return None
    count = apart_from(n)
    return least_late(n, count, primes_of(count))


# Gauss: there are roots by 1, 2 and 4, by powers of odd primes and by twice these, and by no other number.
def has_roots(n):
    refuse_below(1, n)
    if n in (1, 2, 4):
        return True
    half = n // 2 if n % 2 == 0 else n
    return half % 2 == 1 and len(parts_of(half)) == 1

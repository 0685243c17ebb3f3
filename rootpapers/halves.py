"""Half papers: a prime shown by some of the primes of the number ahead of it."""

from rootpapers.errors import NoPrime
from rootpapers.factors import least_late, prime_parts
from rootpapers.judged import is_prime
from rootpapers.papers import left_by_parts, paper_number, paper_of, papers_show, parts_rise
from rootpapers.powers import common_of, power_by


def half_shows(half):
    n = half[0]
    parts = half[1]
    if n <= 2 or not parts_rise(parts) or not papers_show(parts):
        return False
    left = left_by_parts(n - 1, parts)
    if left is None:
        return False
    product = (n - 1) // left
    if product * product <= n:
        return False
    for part in parts:
        if not base_shows(n, paper_number(part[0]), part[2]):
            return False
    return True


def base_shows(n, prime, base):
    if power_by(base, n - 1, n) != 1:
        return False
    return common_of(n, power_by(base, (n - 1) // prime, n) - 1) == 1


def half_of(p):
    if p == 2 or not is_prime(p):
        raise NoPrime(f"{p} is no prime above 2")
    return (p, [(paper_of(prime), times, least_late(p, p - 1, [prime])) for prime, times in fewest_parts(p)])


# Of all choices of so many parts, that of the greatest powers has the greatest product.
def fewest_parts(p):
    chosen = []
    product = 1
    for part in sorted(prime_parts(p - 1), key=part_power, reverse=True):
        if product * product > p:
            break
        chosen.append(part)
        product = product * part_power(part)
    return sorted(chosen)


def part_power(part):
    power = 1
    for step in range(part[1]):
        power = power * part[0]
    return power

"""Whether a number is a prime, its least part, and the strong judging by a base."""

from rootpapers.errors import NoPrime
from rootpapers.powers import divided_out, power_by, refuse_above, refuse_below, refuse_even

# Each of the first primes, with the least number that is no prime and yet stands it and all those ahead of it
# (Jaeschke; Sorenson and Webster): a lesser number that stands them is a prime, and no further base is needed.
BASES = (
    (2, 2047),
    (3, 1373653),
    (5, 25326001),
    (7, 3215031751),
    (11, 2152302898747),
    (13, 3474749660383),
    (17, 341550071728321),
    (19, 341550071728321),
    (23, 3825123056546413051),
    (29, 3825123056546413051),
    (31, 3825123056546413051),
    (37, 318665857834031151167461),
    (41, 3317044064679887385961981),
)
NEXT_BASE = 43


def is_prime(n):
    if n < 2:
        return False
    for base, limit in BASES:
        if n % base == 0:
            return n == base
    if n < NEXT_BASE * NEXT_BASE:
        return True
    return stands_enough(n)


def stands_enough(n):
    for base, limit in BASES:
        if not stands(n, base):
            return False
        if n < limit:
            return True
    return stands_beyond(n)


# No list of bases is proven for numbers this great. Bach: where the extended Riemann hypothesis holds, a number
# that is no prime fails by a prime base below 2 (ln n)(ln n), and that is less than the square of n's bits.
def stands_beyond(n):
    bits = n.bit_length()
    for base in range(NEXT_BASE, bits * bits):
        if is_prime(base) and not stands(n, base):
            return False
    return True


def refuse_no_prime(p):
    if not is_prime(p):
        raise NoPrime(f"{p} is no prime")


def least_part(n):
    refuse_below(2, n)
    # Asked first, so that of a great prime no parts are tried up to its root.
    if is_prime(n):
        return n
    if n % 2 == 0:
        return 2
    if n % 3 == 0:
        return 3
    # All further primes are one less or one more than a multiple of 6.
    part = 5
    while n % part != 0:
        if n % (part + 2) == 0:
            return part + 2
        part = part + 6
    return part


def stands(n, a):
    refuse_below(3, n)
    refuse_even(n)
    refuse_below(2, a)
    refuse_above(n - 2, a)
    odd_and_twos = divided_out(2, n - 1)
    power = power_by(a, odd_and_twos[0], n)
    if power == 1:
        return True
    for step in range(odd_and_twos[1]):
        if power == n - 1:
            return True
        power = power * power % n
    return False

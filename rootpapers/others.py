"""Papers of none: numbers shown to be no primes."""

from rootpapers.errors import IsPrime
from rootpapers.judged import is_prime, least_part, stands
from rootpapers.papers import paper_of
from rootpapers.powers import divided_out, power_by, refuse_below, refuse_even


def none_shows(n, paper):
    if paper[0] == "small":
        return n < 2
    if n <= 3:
        return False
    if paper[0] == "part":
        return 1 < paper[1] < n and n % paper[1] == 0
    if not 2 <= paper[1] <= n - 2:
        return False
    if paper[0] == "power":
        return power_by(paper[1], n - 1, n) != 1
    return paper[1] * paper[1] % n == 1


def refuse_prime(n):
    if is_prime(n):
        raise IsPrime(f"{n} is a prime")


def none_of(n):
    refuse_prime(n)
    if n < 2:
        return ("small",)
    return ("part", least_part(n))


def told_of(n):
    if is_prime(n):
        return ("prime", paper_of(n))
    return ("none", none_of(n))


def least_base(n):
    refuse_prime(n)
    refuse_below(9, n)
    refuse_even(n)
    # Of an odd number that is no prime at most a quarter of all bases are stood, so one is found.
    base = 2
    while stands(n, base):
        base = base + 1
    return base


def none_by_base(n):
    base = least_base(n)
    if power_by(base, n - 1, n) != 1:
        return ("power", base)
    # The base is not stood, so its odd power is not 1, and what comes to 1 is not n less 1.
    turn = power_by(base, divided_out(2, n - 1)[0], n)
    while turn * turn % n != 1:
        turn = turn * turn % n
    return ("turn", turn)

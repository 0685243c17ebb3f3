"""Squares by a prime: signs, roots and logarithms."""

from rootpapers.errors import NoPrime, NoRoot
from rootpapers.factors import comes_early, primes_of
from rootpapers.judged import is_prime, refuse_no_prime
from rootpapers.powers import divided_out, power_by, refuse_above, refuse_below, refuse_even


def sign_by(a, p):
    if p == 2 or not is_prime(p):
        raise NoPrime(f"{p} is no odd prime")
    return sign_of(a, p)


# Jacobi's way: the two numbers are exchanged again and again, so that the primes of n are not needed.
def sign_of(a, n):
    refuse_below(1, n)
    refuse_even(n)
    sign = 1
    upper = a % n
    lower = n
    while upper != 0:
        odd_and_twos = divided_out(2, upper)
        odd = odd_and_twos[0]
        # The sign of 2 is -1 by a number that leaves 3 or 5 by 8.
        if odd_and_twos[1] % 2 == 1 and lower % 8 in (3, 5):
            sign = -sign
        # Two odd numbers that both leave 3 by 4 change the sign where they are exchanged.
        if odd % 4 == 3 and lower % 4 == 3:
            sign = -sign
        upper = lower % odd
        lower = odd
    return sign if lower == 1 else 0


def roots_by(a, p):
    refuse_no_prime(p)
    square = a % p
    if p == 2 or square == 0:
        return [square]
    if sign_of(square, p) == -1:
        return []
    root = one_root(square, p)
    return sorted([root, p - root])


# The way of Tonelli and Shanks: all along root's square is the square times slip, and the order of slip is a power of
# two, which each step halves, if it must, by the square of turn, until slip is 1.
def one_root(square, p):
    odd = divided_out(2, p - 1)[0]
    root = power_by(square, (odd + 1) // 2, p)
    slip = power_by(square, odd, p)
    turn = power_by(least_no_square(p), odd, p)
    exponent = (p - 1) // odd // 4
    while exponent > 0:
        if power_by(slip, exponent, p) != 1:
            root = root * turn % p
            slip = slip * turn * turn % p
        turn = turn * turn % p
        exponent = exponent // 2
    return root


def least_no_square(p):
    number = 2
    while sign_of(number, p) != -1:
        number = number + 1
    return number


def logarithm(a, g, p):
    refuse_no_prime(p)
    for number in (a, g):
        refuse_below(1, number)
        refuse_above(p - 1, number)
    if comes_early(g, p, p - 1, primes_of(p - 1)):
        raise NoRoot(f"the order of {g} by {p} is not {p} less 1")
    exponent = 0
    power = 1
    while power != a:
        power = power * g % p
        exponent = exponent + 1
    return exponent

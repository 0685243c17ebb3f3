"""Common divisors, powers and inverses by a number, whole roots, and two rests at once."""

from rootpapers.errors import NoInverse, NoNumber


def refuse_below(least, number):
    if number < least:
        raise NoNumber(f"{number} is below {least}")


def refuse_above(most, number):
    if number > most:
        raise NoNumber(f"{number} is above {most}")


def refuse_even(number):
    if number % 2 == 0:
        raise NoNumber(f"{number} is even")


def common_of(a, b):
    greater = abs(a)
    lesser = abs(b)
    while lesser != 0:
        rest = greater % lesser
        greater = lesser
        lesser = rest
    return greater


def common_with(a, b):
    refuse_below(0, a)
    refuse_below(0, b)
    common = a
    rest = b
    x = 1
    rest_x = 0
    while rest != 0:
        times = common // rest
        next_rest = common - times * rest
        next_x = x - times * rest_x
        common = rest
        x = rest_x
        rest = next_rest
        rest_x = next_x
    # The steps keep the first factor alone, for the second one follows from it, unless b is 0 and any would do.
    y = 0 if b == 0 else (common - x * a) // b
    return (common, x, y)


def power_by(base, exponent, n):
    refuse_below(0, exponent)
    refuse_below(1, n)
    # By 1 even the empty product leaves 0.
    power = 1 % n
    square = base % n
    left = exponent
    while left > 0:
        if left % 2 == 1:
            power = power * square % n
        square = square * square % n
        left = left // 2
    return power


def inverse_by(a, n):
    refuse_below(1, n)
    found = common_with(a % n, n)
    if found[0] != 1:
        raise NoInverse(f"{a} has no inverse by {n}")
    return found[1] % n


def divided_out(divisor, n):
    left = n
    times = 0
    while left % divisor == 0:
        left = left // divisor
        times = times + 1
    return (left, times)


def whole_root(n):
    refuse_below(0, n)
    root = 1
    while root * root <= n:
        root = root * 2
    # Newton's steps from above never fall below the whole root, so the first that is not above it is it.
    while root * root > n:
        root = (root + n // root) // 2
    return root


def two_rests(a, m, b, n):
    refuse_below(1, m)
    refuse_below(1, n)
    common = common_of(m, n)
    apart = b - a
    if apart % common != 0:
        return None
    # Without the common part m has an inverse by what is left of n.
    left = n // common
    steps = apart // common * inverse_by(m // common, left)
    return (a + m * steps) % (m * left)

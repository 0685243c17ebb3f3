"""What the tests of papers share: papers made and judged after the document's words, with none of the program."""

import copy
import math

TWO = ("two",)
TOP = 20000
# Great primes with the great primes of the number ahead of each that trying does not find fast.
GREAT_PRIMES = {
    2 ** 89 - 1: (2931542417,),
    2 ** 107 - 1: (20394401, 28059810762433),
    2 ** 127 - 1: (77158673929,),
    5 * 2 ** 127 + 1: (),
    3 * 2 ** 66 + 1: (),
    3 * 2 ** 189 + 1: (),
    100000000128 * (2 ** 127 - 1) + 1: (2 ** 127 - 1,),
}
FIFTY_FIGURES = 100000000128 * (2 ** 127 - 1) + 1
# Primes with a least root that is greater than that of each lesser prime.
GREAT_ROOTS = (
    (191, 19), (409, 21), (5881, 31), (36721, 37), (110881, 69), (760321, 73), (5109721, 94), (29418841, 101),
    (184254841, 127), (1685283601, 164), (9470788801, 197), (28725635761, 227),
)
# Primes one more than a product with a great prime in it.
GREAT_PARTS = (999335644787, 999436496603, 999402317843, 999999999959, 999999999269)
PRIMES_TO_TWELFTH = GREAT_PARTS + (
    999983, 1000003, 15485863, 2147483647, 2147483629, 3215031749, 4294967291, 10000000019, 68718952447,
    99999999977, 200560490131, 206158430209, 999999999961, 999999999989,
)
NO_PRIMES = (
    1, 0, -1, -2, -3, -7, -13, -999999999989, 4, 6, 8, 9, 15, 21, 25, 27, 49, 91, 121, 561, 1105, 1729, 2047, 41041,
    1373653, 25326001, 3215031751, 999983 * 999979, 999983 ** 2, 2 * 499999999979, 2 ** 39, 10 ** 12 - 1,
    101987 * 101999, 232250619601,
)


def sieved(top):
    prime = [False, False] + [True] * (top - 2)
    for n in range(2, math.isqrt(top) + 1):
        if prime[n]:
            prime[n * n::n] = [False] * len(range(n * n, top, n))
    return [n for n in range(top) if prime[n]]


PRIMES = sieved(TOP)


def primes_with_times(n, known=()):
    parts = {}
    for q in known:
        while n % q == 0:
            n, parts[q] = n // q, parts.get(q, 0) + 1
    q = 2
    while q * q <= n:
        while n % q == 0:
            n, parts[q] = n // q, parts.get(q, 0) + 1
        q += 1
    if n > 1:
        parts[n] = parts.get(n, 0) + 1
    return sorted(parts.items())


def is_root(g, p, primes):
    return pow(g, p - 1, p) == 1 and all(pow(g, (p - 1) // q, p) != 1 for q in primes)


def made(p):
    if p == 2:
        return TWO
    parts = primes_with_times(p - 1, GREAT_PRIMES.get(p, ()))
    g = 1
    while not is_root(g, p, [q for q, times in parts]):
        g += 1
    return ("root", p, g, [(made(q), times) for q, times in parts])


def number_by_the_words(paper):
    return 2 if paper == TWO else paper[1]


def rising(numbers):
    return all(ahead < number for ahead, number in zip(numbers, numbers[1:]))


def shows_by_the_words(paper):
    if paper == TWO:
        return True
    word, p, g, parts = paper
    if not (p > 2 and 1 <= g <= p - 1 and all(shows_by_the_words(part) for part, times in parts)):
        return False
    numbers = [number_by_the_words(part) for part, times in parts]
    if not (rising(numbers) and all(times >= 1 for part, times in parts)):
        return False
    product = math.prod(number ** part[1] for number, part in zip(numbers, parts))
    return product == p - 1 and is_root(g, p, numbers)


def half_by_the_words(half):
    n, parts = half
    if not (n > 2 and all(shows_by_the_words(paper) for paper, times, base in parts)):
        return False
    numbers = [number_by_the_words(part[0]) for part in parts]
    if not (rising(numbers) and all(times >= 1 for paper, times, base in parts)):
        return False
    product = math.prod(number ** part[1] for number, part in zip(numbers, parts))
    if (n - 1) % product != 0 or product * product <= n:
        return False
    return all(pow(part[2], n - 1, n) == 1 and math.gcd(n, pow(part[2], (n - 1) // q, n) - 1) == 1
               for q, part in zip(numbers, parts))


def lists_in(thing):
    """All lists in a paper or half paper, each as often as it stands there."""
    if not isinstance(thing, (list, tuple)):
        return []
    found = [thing] if isinstance(thing, list) else []
    for inner in thing:
        found.extend(lists_in(inner))
    return found


def kinds_in(thing):
    if isinstance(thing, (list, tuple)):
        return (type(thing), [kinds_in(inner) for inner in thing])
    return type(thing)


def assert_unchanged(case, asked, thing):
    ahead = copy.deepcopy(thing)
    asked(thing)
    case.assertEqual(thing, ahead)
    case.assertEqual(kinds_in(thing), kinds_in(ahead))


def assert_told_anew(case, asked, number):
    """The lists of what is told are each its own, and spoiling them all changes nothing that is told later."""
    first, second = asked(number), asked(number)
    ahead = copy.deepcopy(first)
    lists = lists_in(first) + lists_in(second)
    case.assertEqual(len({id(found) for found in lists}), len(lists))
    for found in lists_in(first):
        found.clear()
        found.append("spoiled")
    case.assertEqual(second, ahead)
    case.assertEqual(asked(number), ahead)

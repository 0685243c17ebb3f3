"""Papers of primes: judged, counted, and found."""

from rootpapers.factors import comes_early, least_late, prime_parts
from rootpapers.judged import refuse_no_prime
from rootpapers.powers import power_by


def paper_number(paper):
    if paper[0] == "two":
        return 2
    return paper[1]


def paper_shows(paper):
    if paper[0] == "two":
        return True
    p = paper[1]
    g = paper[2]
    parts = paper[3]
    if p <= 2 or g < 1 or g > p - 1:
        return False
    if not parts_rise(parts) or left_by_parts(p - 1, parts) != 1:
        return False
    if power_by(g, p - 1, p) != 1 or comes_early(g, p, p - 1, [paper_number(part[0]) for part in parts]):
        return False
    # Last, for by now the numbers within are less than p: thousands of papers within one another are not walked down.
    return papers_show(parts)


# Of each part the paper and the times alone are read, so that the parts of half papers can be judged here, too.
def parts_rise(parts):
    # No paper that is let by has a number below 2.
    ahead = 1
    for part in parts:
        if paper_number(part[0]) <= ahead or part[1] < 1:
            return False
        ahead = paper_number(part[0])
    return True


def papers_show(parts):
    for part in parts:
        if not paper_shows(part[0]):
            return False
    return True


# Parts that rise are divided out one by one rather than multiplied: great times would make a far too great product.
def left_by_parts(number, parts):
    left = number
    for part in parts:
        prime = paper_number(part[0])
        for step in range(part[1]):
            if left % prime != 0:
                return None
            left = left // prime
    return left


def papers_within(paper):
    if paper[0] == "two":
        return 1
    count = 1
    for part in paper[3]:
        count = count + papers_within(part[0])
    return count


def paper_depth(paper):
    if paper[0] == "two":
        return 1
    deepest = 0
    for part in paper[3]:
        deepest = max(deepest, paper_depth(part[0]))
    return deepest + 1


def paper_of(p):
    refuse_no_prime(p)
    if p == 2:
        return ("two",)
    found = prime_parts(p - 1)
    g = least_late(p, p - 1, [prime for prime, times in found])
    # A prime that stands in several parts gets a paper of its own in each, so that no two of the lists are one.
    return ("root", p, g, [(paper_of(prime), times) for prime, times in found])

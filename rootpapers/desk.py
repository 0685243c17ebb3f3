"""A desk: it is told rows and answers texts, and keeps the primes whose papers it was shown."""

from rootpapers.errors import NoForm, NoPaper
from rootpapers.others import told_of
from rootpapers.papers import paper_number, paper_shows
from rootpapers.parts import parts_of
from rootpapers.stretches import primes_in
from rootpapers.sums import sum_told
from rootpapers.texts import number_of, read_paper, show_paper


class Desk:
    def __init__(self):
        # By each number that is kept True.
        self.kept = {}

    def say(self, row):
        if not isinstance(row, str) or "\n" in row:
            raise NoForm("this is no row")
        if row == "forget":
            self.kept = {}
            return self.count_row()
        split = row.partition(" ")
        if split[1] == "":
            raise NoForm(f"{row!r} is no row")
        if split[0] == "keep":
            return self.keep_row(read_paper(split[2]))
        if split[0] == "known":
            return self.known_row(needed_number(split[2]))
        return answer_row(split[0], split[2])

    def count_row(self):
        count = len(self.kept)
        return f"kept {count}"

    def keep_row(self, paper):
        if not paper_shows(paper):
            raise NoPaper("this paper is not let by")
        for number in numbers_within(paper):
            self.kept[number] = True
        return self.count_row()

    def known_row(self, number):
        return "yes" if number in self.kept else "unknown"


def needed_number(figures):
    number = number_of(figures)
    if number is None:
        raise NoForm(f"{figures!r} is no number")
    return number


def numbers_within(paper):
    numbers = [paper_number(paper)]
    if paper[0] == "root":
        for part in paper[3]:
            numbers.extend(numbers_within(part[0]))
    return numbers


# The rows whose answers hang on nothing that is kept.
def answer_row(word, rest):
    if word == "judge":
        return judge_row(read_paper(rest))
    if word == "primes":
        return primes_row([needed_number(figures) for figures in rest.split(" ")])
    if word == "paper":
        return paper_row(needed_number(rest))
    if word == "parts":
        return parts_row(needed_number(rest))
    if word == "squares":
        return squares_row(needed_number(rest))
    raise NoForm(f"{word!r} begins no row")


def judge_row(paper):
    number = paper_number(paper)
    return f"yes {number}" if paper_shows(paper) else "no"


def primes_row(bounds):
    if len(bounds) != 2:
        raise NoForm("a low and a high number are due")
    primes = primes_in(bounds[0], bounds[1])
    if primes == []:
        return "none"
    return " ".join([str(prime) for prime in primes])


def paper_row(n):
    told = told_of(n)
    if told[0] == "prime":
        return show_paper(told[1])
    part = 0 if n < 2 else told[1][1]
    return f"none {part}"


def parts_row(n):
    if n == 1:
        return "1"
    return " ".join([f"{prime}^{times}" for prime, times in parts_of(n)])


def squares_row(n):
    told = sum_told(n)
    if told[0] == "sum":
        a = told[1][0]
        b = told[1][1]
        return f"{a} {b}"
    prime = paper_number(told[1])
    times = told[2]
    return f"bar {prime} {times}"

"""Papers of primes as texts: written and read."""

from rootpapers.errors import NoText

FIGURES = "0123456789"


def show_paper(paper):
    if paper[0] == "two":
        return "2"
    p = paper[1]
    g = paper[2]
    shown = []
    for part in paper[3]:
        inner = show_paper(part[0])
        times = part[1]
        shown.append(f"{inner}*{times}")
    parts = ", ".join(shown)
    return f"{p}:{g}({parts})"


# None where these are no figures. Sign by sign, for Python reads no more than some thousand figures at once.
def number_of(figures):
    if figures == "" or (figures[0] == "0" and figures != "0"):
        return None
    number = 0
    for sign in figures:
        if sign not in FIGURES:
            return None
        number = number * 10 + FIGURES.index(sign)
    return number


class Reader:
    def __init__(self, text):
        self.text = text
        self.at = 0

    def at_end(self):
        return self.at == len(self.text)

    def takes(self, signs):
        if not self.text.startswith(signs, self.at):
            return False
        self.at = self.at + len(signs)
        return True

    def needs(self, signs):
        if not self.takes(signs):
            raise NoText(f"{signs!r} is missing")

    def number(self):
        start = self.at
        while not self.at_end() and self.text[self.at] in FIGURES:
            self.at = self.at + 1
        found = number_of(self.text[start:self.at])
        if found is None:
            raise NoText(f"no number stands at {start}")
        return found


# The papers that are begun and not ended wait in a list, outermost first: a text may open thousands of brackets.
def read_paper(text):
    reader = Reader(text)
    begun = []
    paper = begin_paper(reader, begun)
    while len(begun) > 0:
        if paper is None:
            paper = begin_paper(reader, begun)
        else:
            paper = end_part(reader, begun, paper)
    if not reader.at_end():
        raise NoText("there is more behind the end")
    return paper


# The paper, or None where its parts are still to come.
def begin_paper(reader, begun):
    p = reader.number()
    if not reader.takes(":"):
        if p != 2:
            raise NoText("a number without a root is not 2")
        return ("two",)
    g = reader.number()
    reader.needs("(")
    paper = ("root", p, g, [])
    if reader.takes(")"):
        return paper
    begun.append(paper)
    return None


# The paper that this part ends, or None where another part is to come.
def end_part(reader, begun, paper):
    reader.needs("*")
    times = reader.number()
    begun[-1][3].append((paper, times))
    if reader.takes(")"):
        return begun.pop()
    reader.needs(", ")
    return None

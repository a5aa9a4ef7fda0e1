"""Halls written as texts, and texts read as halls."""

from knowthree.errors import NoText
from knowthree.hall import FEWEST_GUESTS, MOST_GUESTS, Hall

FIRST_WORD = "guests"


def shown(hall):
    many = hall.many()
    lines = [f"{FIRST_WORD} {many}\n"]
    for one in range(many):
        for other in hall.known(one):
            # Each two are told from both sides, but written once.
            if one < other:
                lines.append(f"{one} {other}\n")
    return "".join(lines)


def read(text):
    lines = text.split("\n")
    # A line end stands behind each line, so nothing stands behind the last one.
    # The empty text has no line at all, and fails as a first line that is empty.
    if lines[-1] != "":
        raise NoText("a text ends with a line end")
    hall = Hall(guests_told(lines[0]))
    for line in lines[1:-1]:
        meet_as_told(hall, line)
    return hall


def guests_told(line):
    words = two_words(line)
    if words[0] != FIRST_WORD:
        raise NoText("the first line tells how many guests there are")
    return number_told(words[1], FEWEST_GUESTS, MOST_GUESTS)


def meet_as_told(hall, line):
    words = two_words(line)
    last = hall.many() - 1
    one = number_told(words[0], 0, last)
    # Only those above the first one are left: this refuses one guest twice
    # and the greater one first as well.
    other = number_told(words[1], one + 1, last)
    if hall.know(one, other):
        raise NoText("two guests are told twice")
    hall.meet(one, other)


def two_words(line):
    words = line.split(" ")
    if len(words) != 2:
        raise NoText("a line has two words with one blank between them")
    return words


# Held against each number as it is written: Python's own reading of numbers
# takes signs, needless noughts and blanks too.
def number_told(word, lowest, highest):
    for number in range(lowest, highest + 1):
        if word == str(number):
            return number
    raise NoText("there is no such number here")

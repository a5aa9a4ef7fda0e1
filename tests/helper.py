"""What several of the tests need: halls made from pairs, and whole halls told."""

from knowthree.hall import Hall

# More figures than Python is willing to write out, so that an error whose
# words quote the number shows itself.
FAR = 10 ** 5000


def pairs_of(many):
    return [(one, other) for one in range(many) for other in range(one + 1, many)]


def hall_of(many, pairs):
    hall = Hall(many)
    for one, other in pairs:
        hall.meet(one, other)
    return hall


def small_halls(most):
    """Every hall of at most so many guests, with the pairs who know one another."""
    for many in range(1, most + 1):
        pairs = pairs_of(many)
        for choice in range(2 ** len(pairs)):
            chosen = [pair for place, pair in enumerate(pairs) if choice >> place & 1]
            yield hall_of(many, chosen), many, chosen


def large_pairs(many):
    """Some pairs of a large hall, without any plain order among them."""
    return [(one, other) for one, other in pairs_of(many) if (one * 7 + other * other * 3) % 5 < 2]


def told(hall):
    """All that a hall tells of itself."""
    guests = range(hall.many())
    return (
        hall.many(),
        [hall.known(guest) for guest in guests],
        [hall.strangers(guest) for guest in guests],
        [[hall.know(one, other) for other in guests if other != one] for one in guests],
    )


def expected(many, pairs):
    """The same, reckoned from the pairs alone."""
    both = set(pairs) | {(other, one) for one, other in pairs}
    guests = range(many)
    return (
        many,
        [[other for other in guests if (guest, other) in both] for guest in guests],
        [[other for other in guests if other != guest and (guest, other) not in both] for guest in guests],
        [[(one, other) in both for other in guests if other != one] for one in guests],
    )

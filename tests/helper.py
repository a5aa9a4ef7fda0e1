"""What several of the tests need: halls made from pairs, whole halls told, and refusals held."""

from itertools import combinations

from knowthree.errors import BadHall, HallError, KnowAlready, NoGuest, NoText, SameGuest, Strangers
from knowthree.hall import Hall

SIX = [NoGuest, SameGuest, KnowAlready, Strangers, BadHall, NoText]

# More figures than Python is willing to write out, so that an error whose
# words quote the number shows itself.
FAR = 10 ** 5000


def pairs_of(many):
    return [(one, other) for one in range(many) for other in range(one + 1, many)]


def hall_of(many, pairs):
    hall = Hall(many)
    for one, other in pairs:
        hall.meet(one, other)
    return hall


def small_halls(most):
    """Every hall of at most so many guests, with the pairs who know one another."""
    for many in range(1, most + 1):
        pairs = pairs_of(many)
        for choice in range(2 ** len(pairs)):
            chosen = [pair for place, pair in enumerate(pairs) if choice >> place & 1]
            yield hall_of(many, chosen), many, chosen


def large_pairs(many):
    """Some pairs of a large hall, without any plain order among them."""
    return [(one, other) for one, other in pairs_of(many) if (one * 7 + other * other * 3) % 5 < 2]


def mixed_pairs(many, seed, share=50):
    """Some pairs, about so many of a hundred; the same ones for the same seed."""
    state = seed * 7919 + many * 104729 + share
    chosen = []
    for pair in pairs_of(many):
        state = (state * 6364136223846793005 + 1442695040888963407) % 2 ** 64
        if (state >> 33) % 100 < share:
            chosen.append(pair)
    return chosen


def some_pairs(many):
    """Several lists of pairs for a hall: none, all, and mixed ones with few and with many pairs."""
    mixed = [mixed_pairs(many, seed, share) for seed in range(3) for share in [15, 40, 60, 85]]
    return [[], pairs_of(many), large_pairs(many)] + mixed


def ring_pairs(order):
    """The pairs of neighbours in a ring of guests told in this order."""
    return [(order[place - 1], order[place]) for place in range(len(order))]


def threes_by_hand(hall):
    """All choices of three guests gone through one by one."""
    found = []
    for one, two, three in combinations(range(hall.many()), 3):
        if hall.know(one, two) == hall.know(one, three) == hall.know(two, three):
            found.append((one, two, three))
    return found


def change(hall, one, other):
    """The two meet if they are strangers, and part if they know one another."""
    if hall.know(one, other):
        hall.part(one, other)
    else:
        hall.meet(one, other)


def check_refused(case, error, call, *arguments):
    """The call raises this very error, which is none of the other five."""
    with case.assertRaises(HallError) as taken:
        call(*arguments)
    raised = taken.exception
    case.assertIs(raised.__class__, error)
    case.assertIsInstance(raised, ValueError)
    case.assertEqual([kind for kind in SIX if isinstance(raised, kind)], [error])


def told(hall):
    """All that a hall tells of itself."""
    guests = range(hall.many())
    return (
        hall.many(),
        [hall.known(guest) for guest in guests],
        [hall.strangers(guest) for guest in guests],
        [[hall.know(one, other) for other in guests if other != one] for one in guests],
    )


def expected(many, pairs):
    """The same, reckoned from the pairs alone."""
    both = set(pairs) | {(other, one) for one, other in pairs}
    guests = range(many)
    return (
        many,
        [[other for other in guests if (guest, other) in both] for guest in guests],
        [[other for other in guests if other != guest and (guest, other) not in both] for guest in guests],
        [[(one, other) in both for other in guests if other != one] for one in guests],
    )

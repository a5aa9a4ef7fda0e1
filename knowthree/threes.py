"""Threes: three guests each two of whom know one another, or are strangers."""

from knowthree.errors import BadHall
from knowthree.hall import Hall, need_many

RING_GUESTS = 5


def threes(hall):
    many = hall.many()
    found = []
    for one in range(many):
        for two in range(one + 1, many):
            for three in range(two + 1, many):
                if is_three(hall, one, two, three):
                    found.append((one, two, three))
    return found


def is_three(hall, one, two, three):
    acquainted = hall.know(one, two)
    return hall.know(one, three) == acquainted and hall.know(two, three) == acquainted


# In each choice of three guests that is no three, just two of them know one of
# the other two and not the other. A guest who knows d of them is so placed in
# d * (n - 1 - d) choices, so the sum of these counts each such choice twice.
def how_many(hall):
    many = hall.many()
    mixed = 0
    for guest in range(many):
        acquainted = len(hall.known(guest))
        mixed = mixed + acquainted * (many - 1 - acquainted)
    return choices_of_three(many) - mixed // 2


def choices_of_three(many):
    return many * (many - 1) * (many - 2) // 6


def a_three(hall):
    found = threes(hall)
    if len(found) == 0:
        return None
    return found[0]


def ring(hall):
    if hall.many() != RING_GUESTS:
        raise BadHall("a ring is told of a hall of five guests alone")
    if how_many(hall) > 0:
        return None
    # Five guests without a three know two others each, so the walk always
    # finds one who is not told yet, and comes back to its beginning.
    walk = [0]
    while len(walk) < RING_GUESTS:
        ahead = [guest for guest in hall.known(walk[-1]) if guest not in walk]
        walk.append(ahead[0])
    return walk


# A guest adds most to the sum in how_many by knowing half of the others, or as
# near to half as can be. That sum is even in every hall, so where the most
# that all guests could add is odd, no hall gets nearer than one below it:
# rounding down the half allows for that. The halls of sparse get so far.
def least(many):
    need_many(many)
    half = (many - 1) // 2
    mixed = many * half * (many - 1 - half)
    return choices_of_three(many) - mixed // 2


def sparse(many):
    hall = Hall(many)
    # Round a table, each guest knows a quarter of the guests on either side.
    for guest in range(many):
        for step in range(1, many // 4 + 1):
            hall.meet(guest, (guest + step) % many)
    # Here that leaves each guest one short of half of the others. Guests who
    # sit across pair off, and only the last guest stays without one.
    if many % 4 == 3:
        across = many // 2
        for guest in range(across):
            hall.meet(guest, guest + across)
    return hall

"""Crowds: sets of guests each two of whom know one another, or are strangers."""

from knowthree.hall import turned


def crowd(hall):
    return greatest_among(hall, list(range(hall.many())))


def unknown_crowd(hall):
    return crowd(turned(hall))


# The guests come rising and each goes ahead of those behind, so what is told
# rises too.
def greatest_among(hall, guests):
    if len(guests) == 0:
        return []
    first = guests[0]
    others = guests[1:]
    fitting = [guest for guest in others if hall.know(first, guest)]
    best = [first] + greatest_among(hall, fitting)
    # Whoever knows all the others belongs to every greatest crowd, so it is
    # worth trying without the first guest only where somebody doesn't fit.
    # Without this, a hall in which all know one another would take all its sets.
    if len(fitting) < len(others):
        without = greatest_among(hall, others)
        if len(without) > len(best):
            best = without
    return best


def is_crowd(hall, guests):
    # All are looked at first, so that a number that is no guest is refused
    # also where two others settle the answer.
    for guest in guests:
        hall.need_guest(guest)
    for one in guests:
        for other in guests:
            if one < other and not hall.know(one, other):
                return False
    return True

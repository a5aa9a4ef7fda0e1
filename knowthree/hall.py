"""A hall of guests, any two of whom know one another or are strangers."""

from knowthree.errors import BadHall, KnowAlready, NoGuest, SameGuest, Strangers

FEWEST_GUESTS = 1
MOST_GUESTS = 20


# The refusals never quote the number they refuse: Python won't write out a
# number of some thousand figures, and would raise an error of its own instead.
def need_many(many):
    if many < FEWEST_GUESTS or many > MOST_GUESTS:
        raise BadHall("a hall has 1 to 20 guests")


class Hall:

    def __init__(self, many):
        need_many(many)
        # Each two guests stand here twice, once in either order, so that
        # nothing that asks has to know which of them is the lesser one.
        self.rows = [[False] * many for guest in range(many)]

    def many(self):
        return len(self.rows)

    def meet(self, one, other):
        if self.know(one, other):
            raise KnowAlready("the two know one another already")
        self.settle(one, other, True)

    def part(self, one, other):
        if not self.know(one, other):
            raise Strangers("the two are strangers already")
        self.settle(one, other, False)

    def know(self, one, other):
        # Both are looked at as guests before they are compared, since one
        # number twice that is no guest is to be refused as no guest.
        self.need_guest(one)
        self.need_guest(other)
        if one == other:
            raise SameGuest("two guests are wanted, not one guest twice")
        return self.rows[one][other]

    def known(self, guest):
        self.need_guest(guest)
        row = self.rows[guest]
        return [other for other in range(len(row)) if row[other]]

    def strangers(self, guest):
        self.need_guest(guest)
        row = self.rows[guest]
        return [other for other in range(len(row)) if other != guest and not row[other]]

    # Python takes numbers below nought as places from a list's end, so they
    # have to be refused before any row is looked up.
    def need_guest(self, guest):
        if guest < 0 or guest >= len(self.rows):
            raise NoGuest("the hall has no such guest")

    def settle(self, one, other, acquainted):
        self.rows[one][other] = acquainted
        self.rows[other][one] = acquainted


def turned(hall):
    about = Hall(hall.many())
    for one in range(hall.many()):
        for other in hall.strangers(one):
            # Each two strangers are told from both sides, but meet once.
            if one < other:
                about.meet(one, other)
    return about

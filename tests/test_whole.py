"""The interface, and points 1 and 2 over the whole program."""

import inspect
import unittest

from helper import FAR, check_refused, expected, hall_of, mixed_pairs, small_halls, some_pairs, told
from knowthree import crowds, errors, hall, notes, threes

INTERFACE = [
    (hall.Hall, ["many"]),
    (hall.Hall.many, ["self"]),
    (hall.Hall.meet, ["self", "one", "other"]),
    (hall.Hall.part, ["self", "one", "other"]),
    (hall.Hall.know, ["self", "one", "other"]),
    (hall.Hall.known, ["self", "guest"]),
    (hall.Hall.strangers, ["self", "guest"]),
    (hall.turned, ["hall"]),
    (threes.threes, ["hall"]),
    (threes.how_many, ["hall"]),
    (threes.a_three, ["hall"]),
    (threes.ring, ["hall"]),
    (threes.least, ["many"]),
    (threes.sparse, ["many"]),
    (crowds.crowd, ["hall"]),
    (crowds.unknown_crowd, ["hall"]),
    (crowds.is_crowd, ["hall", "guests"]),
    (notes.shown, ["hall"]),
    (notes.read, ["text"]),
]


def all_answers(guests_hall):
    """What every question of the program tells of a hall; halls are told whole."""
    many = guests_hall.many()
    answers = [
        told(guests_hall),
        told(hall.turned(guests_hall)),
        threes.threes(guests_hall),
        threes.how_many(guests_hall),
        threes.a_three(guests_hall),
        threes.ring(guests_hall) if many == 5 else None,
        crowds.crowd(guests_hall),
        crowds.unknown_crowd(guests_hall),
        [crowds.is_crowd(guests_hall, guests_hall.known(guest)) for guest in range(many)],
        notes.shown(guests_hall),
        told(notes.read(notes.shown(guests_hall))),
    ]
    return answers


def all_lists(guests_hall):
    many = guests_hall.many()
    lists = [guests_hall.known(guest) for guest in range(many)]
    lists += [guests_hall.strangers(guest) for guest in range(many)]
    lists += [threes.threes(guests_hall), crowds.crowd(guests_hall), crowds.unknown_crowd(guests_hall)]
    order = threes.ring(guests_hall) if many == 5 else None
    if order is not None:
        lists.append(order)
    return lists


class InterfaceTest(unittest.TestCase):

    def test_names_and_arguments(self):
        for called, arguments in INTERFACE:
            with self.subTest(called=called):
                self.assertEqual(list(inspect.signature(called).parameters), arguments)


class NothingIsChangedTest(unittest.TestCase):

    def check_asking(self, guests_hall, many, pairs):
        first = all_answers(guests_hall)
        self.assertEqual(told(guests_hall), expected(many, pairs))
        self.assertEqual(all_answers(guests_hall), first)

    def test_asking_changes_no_small_hall(self):
        for guests_hall, many, pairs in small_halls(5):
            self.check_asking(guests_hall, many, pairs)

    def test_asking_changes_no_larger_hall(self):
        for many in range(6, 21):
            for pairs in some_pairs(many):
                self.check_asking(hall_of(many, pairs), many, pairs)

    def test_no_two_told_lists_are_one(self):
        for many in range(1, 13):
            for pairs in some_pairs(many):
                guests_hall = hall_of(many, pairs)
                lists = all_lists(guests_hall) + all_lists(guests_hall)
                self.assertEqual(len(set(id(told_list) for told_list in lists)), len(lists))

    def test_spoiling_all_told_lists_changes_nothing(self):
        rings = [[(0, 2), (2, 4), (1, 4), (1, 3), (0, 3)]]
        for many in range(1, 13):
            for pairs in some_pairs(many) + (rings if many == 5 else []):
                guests_hall = hall_of(many, pairs)
                first = [list(told_list) for told_list in all_lists(guests_hall)]
                for told_list in all_lists(guests_hall):
                    told_list.append(many)
                    told_list.reverse()
                self.assertEqual(all_lists(guests_hall), first)
                for told_list in all_lists(guests_hall):
                    told_list.clear()
                self.assertEqual(all_lists(guests_hall), first)
                self.assertEqual(told(guests_hall), expected(many, pairs))

    def test_two_halls_don_t_mix(self):
        one = hall_of(7, mixed_pairs(7, 1))
        other = hall_of(7, mixed_pairs(7, 2))
        first = all_answers(one)
        second = all_answers(other)
        self.assertNotEqual(first, second)
        self.assertEqual(all_answers(one), first)
        other.meet(*[pair for pair in [(0, 1), (0, 2), (0, 3), (1, 2)] if not other.know(*pair)][0])
        self.assertEqual(all_answers(one), first)


class RefusedTest(unittest.TestCase):

    def test_refused_calls_change_nothing(self):
        for many in [1, 2, 4, 6, 20]:
            for pairs in some_pairs(many):
                guests_hall = hall_of(many, pairs)
                for bad in [-1, many, FAR]:
                    for call in [guests_hall.meet, guests_hall.part, guests_hall.know]:
                        check_refused(self, errors.NoGuest, call, 0, bad)
                        check_refused(self, errors.NoGuest, call, bad, 0)
                        check_refused(self, errors.NoGuest, call, bad, bad)
                        check_refused(self, errors.SameGuest, call, 0, 0)
                    check_refused(self, errors.NoGuest, guests_hall.known, bad)
                    check_refused(self, errors.NoGuest, guests_hall.strangers, bad)
                    check_refused(self, errors.NoGuest, crowds.is_crowd, guests_hall, [0, bad])
                check_refused(self, errors.BadHall, threes.ring, guests_hall)
                self.assertEqual(told(guests_hall), expected(many, pairs))

    def test_the_refusals_of_the_hall_are_none_of_the_other_five(self):
        guests_hall = hall_of(3, [(0, 1)])
        check_refused(self, errors.KnowAlready, guests_hall.meet, 1, 0)
        check_refused(self, errors.Strangers, guests_hall.part, 1, 2)
        check_refused(self, errors.BadHall, hall.Hall, 0)
        check_refused(self, errors.BadHall, hall.Hall, 21)
        check_refused(self, errors.NoText, notes.read, "guests 3\n0 3\n")
        self.assertEqual(told(guests_hall), expected(3, [(0, 1)]))

    def test_the_program_goes_on_behind_refusals(self):
        check_refused(self, errors.NoText, notes.read, "guests 3\n0 1\n0 1\n")
        self.assertEqual(told(notes.read("guests 3\n0 1\n")), expected(3, [(0, 1)]))
        check_refused(self, errors.BadHall, threes.sparse, 21)
        self.assertEqual(threes.sparse(20).many(), 20)


if __name__ == "__main__":
    unittest.main()

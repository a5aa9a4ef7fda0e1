import unittest
from itertools import combinations, permutations

from helper import (
    FAR,
    change,
    check_refused,
    expected,
    hall_of,
    mixed_pairs,
    pairs_of,
    ring_pairs,
    small_halls,
    some_pairs,
    told,
)
from knowthree.crowds import crowd, is_crowd, unknown_crowd
from knowthree.errors import NoGuest
from knowthree.hall import Hall, turned


def middling_halls():
    for many in range(6, 13):
        for pairs in some_pairs(many):
            yield hall_of(many, pairs), many, pairs


def all_know(hall, guests, acquainted):
    return all(hall.know(one, other) is acquainted for one, other in combinations(guests, 2))


def greatest_by_hand(hall, acquainted):
    """How many guests the greatest crowd has, all sets gone through, the greatest ones first."""
    for size in range(hall.many(), 0, -1):
        if any(all_know(hall, guests, acquainted) for guests in combinations(range(hall.many()), size)):
            return size


class GreatestTest(unittest.TestCase):

    def check_one(self, hall, found, acquainted):
        self.assertIs(found.__class__, list)
        self.assertEqual([guest.__class__ for guest in found], [int] * len(found))
        self.assertEqual(found, sorted(set(found)))
        self.assertLessEqual(set(found), set(range(hall.many())))
        self.assertTrue(all_know(hall, found, acquainted))

    def check_both(self, hall):
        before = told(hall)
        found = crowd(hall)
        self.check_one(hall, found, True)
        self.assertEqual(len(found), greatest_by_hand(hall, True))
        found = unknown_crowd(hall)
        self.check_one(hall, found, False)
        self.assertEqual(len(found), greatest_by_hand(hall, False))
        self.assertEqual(told(hall), before)

    def test_every_hall_of_1_to_5_guests(self):
        for hall, many, pairs in small_halls(5):
            self.check_both(hall)

    def test_halls_of_6_to_12_guests(self):
        for hall, many, pairs in middling_halls():
            with self.subTest(many=many, pairs=pairs):
                self.check_both(hall)

    def test_written_out(self):
        self.assertEqual(crowd(Hall(1)), [0])
        self.assertEqual(unknown_crowd(Hall(1)), [0])
        self.assertEqual(len(crowd(Hall(12))), 1)
        self.assertEqual(unknown_crowd(Hall(12)), list(range(12)))
        full = hall_of(12, pairs_of(12))
        self.assertEqual(crowd(full), list(range(12)))
        self.assertEqual(len(unknown_crowd(full)), 1)
        hall = hall_of(6, [(1, 5), (3, 5), (1, 3), (0, 1), (0, 2), (0, 4)])
        self.assertEqual(crowd(hall), [1, 3, 5])
        hall = hall_of(6, [(0, 1), (0, 2), (0, 4), (1, 2), (1, 4), (2, 4), (0, 5), (1, 3), (3, 4)])
        self.assertEqual(unknown_crowd(hall), [2, 3, 5])

    def test_only_one_greatest_crowd_wherever_it_is(self):
        for guests in combinations(range(8), 4):
            with self.subTest(guests=guests):
                pairs = list(combinations(guests, 2))
                # Each further guest knows two of the four, so that nobody
                # stands out by knowing nobody.
                for other in range(8):
                    if other not in guests:
                        pairs += [(other, guests[0]), (other, guests[-1])]
                self.assertEqual(crowd(hall_of(8, pairs)), list(guests))
                self.assertEqual(unknown_crowd(turned(hall_of(8, pairs))), list(guests))

    def test_ahead_of_and_behind_a_meeting_and_a_parting(self):
        for many in range(2, 11):
            hall = hall_of(many, mixed_pairs(many, 4))
            for pair in pairs_of(many)[::5]:
                with self.subTest(many=many, pair=pair):
                    self.check_both(hall)
                    change(hall, *pair)
                    self.check_both(hall)
                    change(hall, *pair)
                    self.check_both(hall)

    def test_a_told_list_is_the_askers_own(self):
        for pairs in [[], pairs_of(6), mixed_pairs(6, 1)]:
            hall = hall_of(6, pairs)
            for ask in [crowd, unknown_crowd]:
                first = ask(hall)
                second = ask(hall)
                size = len(second)
                self.assertIsNot(first, second)
                first.append(17)
                first.reverse()
                self.check_both(hall)
                first.clear()
                self.check_both(hall)
                self.assertEqual(len(second), size)
                self.assertEqual(told(hall), expected(6, pairs))

    def test_a_told_list_stays_when_the_hall_changes(self):
        hall = hall_of(3, pairs_of(3))
        found = crowd(hall)
        hall.part(0, 1)
        self.assertEqual(found, [0, 1, 2])
        self.assertEqual(len(crowd(hall)), 2)

    def test_halls_beyond_12_guests_are_not_refused(self):
        for many in range(13, 21):
            with self.subTest(many=many):
                self.assertEqual(unknown_crowd(Hall(many)), list(range(many)))
                self.assertEqual(crowd(hall_of(many, pairs_of(many))), list(range(many)))
                round_table = hall_of(many, ring_pairs(list(range(many))))
                self.check_one(round_table, crowd(round_table), True)
                self.assertEqual(len(crowd(round_table)), 2)
                self.check_one(round_table, unknown_crowd(round_table), False)
                self.assertEqual(len(unknown_crowd(round_table)), many // 2)
                tables = hall_of(many, [pair for pair in pairs_of(many) if pair[0] % 4 == pair[1] % 4])
                self.assertEqual(len(crowd(tables)), (many + 3) // 4)
                self.assertEqual(len(unknown_crowd(tables)), 4)


class IsCrowdTest(unittest.TestCase):

    def check_answer(self, hall, guests, answer):
        handed = list(guests)
        self.assertIs(is_crowd(hall, handed), answer)
        self.assertEqual(handed, list(guests))

    def test_every_list_of_small_halls(self):
        for hall, many, pairs in small_halls(4):
            before = told(hall)
            for size in range(many + 1):
                for guests in permutations(range(many), size):
                    self.check_answer(hall, guests, all_know(hall, guests, True))
            self.assertEqual(told(hall), before)

    def test_none_and_one_alone(self):
        for many in [1, 2, 5, 20]:
            for pairs in [[], pairs_of(many)]:
                hall = hall_of(many, pairs)
                self.check_answer(hall, [], True)
                for guest in range(many):
                    self.check_answer(hall, [guest], True)

    def test_one_pair_of_strangers_among_many(self):
        for many in [6, 20]:
            for one, other in pairs_of(many):
                hall = hall_of(many, [pair for pair in pairs_of(many) if pair != (one, other)])
                guests = list(range(many))
                self.check_answer(hall, guests, False)
                self.check_answer(hall, guests[::-1], False)
                self.check_answer(hall, guests[::2] + guests[1::2], False)
                self.check_answer(hall, [guest for guest in guests if guest != one], True)
                self.check_answer(hall, [guest for guest in guests[::-1] if guest != other], True)

    def test_all_sets_of_larger_halls(self):
        for many in [8, 12, 20]:
            hall = hall_of(many, mixed_pairs(many, 3, 75))
            for size in [2, 3, 4]:
                for guests in list(combinations(range(many), size))[::3]:
                    self.check_answer(hall, guests, all_know(hall, guests, True))
                    self.check_answer(hall, guests[1:] + guests[:1], all_know(hall, guests, True))

    def test_ahead_of_and_behind_a_meeting_and_a_parting(self):
        hall = hall_of(4, [(0, 1), (1, 3)])
        self.check_answer(hall, [3, 0, 1], False)
        hall.meet(3, 0)
        self.check_answer(hall, [3, 0, 1], True)
        hall.part(1, 0)
        self.check_answer(hall, [3, 0, 1], False)

    def test_what_is_told_of_a_hall_is_a_crowd(self):
        for hall, many, pairs in middling_halls():
            self.check_answer(hall, crowd(hall), True)
            self.check_answer(turned(hall), unknown_crowd(hall), True)

    def check_no_guest(self, hall, guests):
        before = told(hall)
        handed = list(guests)
        check_refused(self, NoGuest, is_crowd, hall, handed)
        self.assertEqual(handed, list(guests))
        self.assertEqual(told(hall), before)

    def test_no_guest_at_whatever_place(self):
        for many in [1, 2, 5, 20]:
            for pairs in [[], pairs_of(many), mixed_pairs(many, 8)]:
                hall = hall_of(many, pairs)
                for bad in [-1, -2, -many, -many - 1, many, many + 1, 21, 1000, FAR, -FAR]:
                    self.check_no_guest(hall, [bad])
                    for guests in [list(range(many)), list(range(many))[::-1], [many - 1]]:
                        for place in range(len(guests) + 1):
                            self.check_no_guest(hall, guests[:place] + [bad] + guests[place:])

    def test_several_that_are_no_guests(self):
        hall = hall_of(3, [(0, 1)])
        for guests in [[-1, 3], [3, -1], [-1, -2, -3], [3, 4, 5], [0, 2, -1, 7], [FAR, 0, 2]]:
            self.check_no_guest(hall, guests)

    def test_a_list_may_be_changed_later(self):
        hall = hall_of(3, [(0, 1)])
        guests = [0, 1]
        self.assertIs(is_crowd(hall, guests), True)
        guests.append(2)
        self.assertIs(is_crowd(hall, guests), False)
        self.assertEqual(told(hall), expected(3, [(0, 1)]))


if __name__ == "__main__":
    unittest.main()

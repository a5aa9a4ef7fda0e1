import unittest
from itertools import permutations

from helper import (
    FAR,
    change,
    check_refused,
    expected,
    hall_of,
    mixed_pairs,
    pairs_of,
    ring_pairs,
    small_halls,
    some_pairs,
    threes_by_hand,
    told,
)
from knowthree.errors import BadHall
from knowthree.hall import Hall
from knowthree.threes import a_three, how_many, least, ring, sparse, threes

NO_NUMBERS_OF_GUESTS = [0, 21, 22, 100, 10 ** 9, FAR, -1, -2, -5, -20, -21, -10 ** 9, -FAR]

# Worked out by hand from the formulas for 2u, 4u + 1 and 4u + 3 guests:
# u(u - 1)(u - 2) / 3, 2u(u - 1)(4u + 1) / 3 and 2u(u + 1)(4u - 1) / 3.
LEAST = [0, 0, 0, 0, 0, 2, 4, 8, 12, 20, 28, 40, 52, 70, 88, 112, 136, 168, 200, 240]


def larger_halls():
    for many in range(6, 21):
        for pairs in some_pairs(many):
            yield hall_of(many, pairs), many, pairs


def reckoned(many, pairs):
    """Point 4, from the pairs alone."""
    doubled = 0
    for guest in range(many):
        knows = sum(1 for pair in pairs if guest in pair)
        doubled += knows * (many - 1 - knows)
    return (many * (many - 1) * (many - 2) * 2 - doubled * 6) / 12


class ThreesTest(unittest.TestCase):

    def check_threes(self, hall):
        before = told(hall)
        found = threes(hall)
        self.assertEqual(found, threes_by_hand(hall))
        self.assertIs(found.__class__, list)
        self.assertEqual(found, sorted(set(found)))
        for three in found:
            self.assertIs(three.__class__, tuple)
            self.assertEqual([guest.__class__ for guest in three], [int, int, int])
            self.assertTrue(three[0] < three[1] < three[2])
        self.assertEqual(told(hall), before)

    def test_every_hall_of_1_to_5_guests(self):
        for hall, many, pairs in small_halls(5):
            self.check_threes(hall)

    def test_halls_of_6_to_20_guests(self):
        for hall, many, pairs in larger_halls():
            with self.subTest(many=many, pairs=pairs):
                self.check_threes(hall)

    def test_written_out(self):
        self.assertEqual(threes(Hall(1)), [])
        self.assertEqual(threes(Hall(2)), [])
        self.assertEqual(threes(Hall(3)), [(0, 1, 2)])
        self.assertEqual(threes(hall_of(3, pairs_of(3))), [(0, 1, 2)])
        self.assertEqual(threes(hall_of(3, [(0, 1)])), [])
        self.assertEqual(threes(hall_of(3, [(0, 1), (1, 2)])), [])
        self.assertEqual(threes(hall_of(4, [(0, 3), (0, 2), (2, 3)])), [(0, 2, 3)])
        self.assertEqual(threes(hall_of(5, [(0, 1)])), [(0, 2, 3), (0, 2, 4), (0, 3, 4), (1, 2, 3), (1, 2, 4),
                                                         (1, 3, 4), (2, 3, 4)])

    def test_ahead_of_and_behind_a_meeting_and_a_parting(self):
        for many in range(2, 21):
            hall = hall_of(many, mixed_pairs(many, 5))
            self.check_threes(hall)
            for pair in pairs_of(many)[::7]:
                with self.subTest(many=many, pair=pair):
                    first = threes(hall)
                    change(hall, *pair)
                    self.check_threes(hall)
                    change(hall, pair[1], pair[0])
                    self.check_threes(hall)
                    self.assertEqual(threes(hall), first)

    def test_a_told_list_is_the_askers_own(self):
        hall = hall_of(7, mixed_pairs(7, 2))
        first = threes(hall)
        second = threes(hall)
        self.assertTrue(first)
        self.assertIsNot(first, second)
        first.append((7, 8, 9))
        first.reverse()
        self.assertEqual(threes(hall), second)
        first.clear()
        self.assertEqual(threes(hall), second)
        self.assertEqual(second, threes_by_hand(hall))
        empty = threes(Hall(2))
        empty.append(1)
        self.assertEqual(threes(Hall(2)), [])

    def test_a_told_list_stays_when_the_hall_changes(self):
        hall = Hall(3)
        found = threes(hall)
        hall.meet(0, 1)
        self.assertEqual(found, [(0, 1, 2)])
        self.assertEqual(threes(hall), [])


class HowManyTest(unittest.TestCase):

    def check_number(self, hall, many, pairs):
        before = told(hall)
        number = how_many(hall)
        self.assertIs(number.__class__, int)
        self.assertEqual(number, len(threes_by_hand(hall)))
        self.assertEqual(number, len(threes(hall)))
        self.assertEqual(number, reckoned(many, pairs))
        self.assertEqual(told(hall), before)

    def test_every_hall_of_1_to_5_guests(self):
        for hall, many, pairs in small_halls(5):
            self.check_number(hall, many, pairs)

    def test_halls_of_6_to_20_guests(self):
        for hall, many, pairs in larger_halls():
            with self.subTest(many=many, pairs=pairs):
                self.check_number(hall, many, pairs)

    def test_written_out(self):
        self.assertEqual(how_many(Hall(1)), 0)
        self.assertEqual(how_many(Hall(2)), 0)
        self.assertEqual(how_many(Hall(3)), 1)
        self.assertEqual(how_many(hall_of(3, [(0, 2)])), 0)
        self.assertEqual(how_many(Hall(20)), 1140)
        self.assertEqual(how_many(hall_of(20, pairs_of(20))), 1140)
        self.assertEqual(how_many(hall_of(20, [(4, 17)])), 1122)

    def test_ahead_of_and_behind_a_meeting_and_a_parting(self):
        for many in range(2, 21):
            hall = hall_of(many, mixed_pairs(many, 6))
            for pair in pairs_of(many)[::5]:
                with self.subTest(many=many, pair=pair):
                    first = how_many(hall)
                    change(hall, *pair)
                    self.assertEqual(how_many(hall), len(threes_by_hand(hall)))
                    change(hall, *pair)
                    self.assertEqual(how_many(hall), first)


class AThreeTest(unittest.TestCase):

    def check_a_three(self, hall):
        before = told(hall)
        by_hand = threes_by_hand(hall)
        three = a_three(hall)
        if by_hand:
            self.assertIs(three.__class__, tuple)
            self.assertEqual([guest.__class__ for guest in three], [int, int, int])
            self.assertIn(three, by_hand)
        else:
            self.assertIsNone(three)
        self.assertEqual(told(hall), before)

    def test_every_hall_of_1_to_5_guests(self):
        for hall, many, pairs in small_halls(5):
            self.check_a_three(hall)

    def test_six_guests_or_more_always_have_one(self):
        for hall, many, pairs in larger_halls():
            with self.subTest(many=many, pairs=pairs):
                self.assertIsNotNone(a_three(hall))
                self.check_a_three(hall)

    def test_the_only_three_is_found(self):
        hall = hall_of(5, [(0, 1), (1, 2), (0, 3), (2, 4), (3, 4), (2, 3)])
        self.assertEqual(threes_by_hand(hall), [(2, 3, 4)])
        self.assertEqual(a_three(hall), (2, 3, 4))

    def test_rings_of_five_have_none(self):
        for order in permutations(range(5)):
            with self.subTest(order=order):
                self.assertIsNone(a_three(hall_of(5, ring_pairs(order))))

    def test_a_ring_with_further_guests_has_one(self):
        for order in list(permutations(range(5)))[::7]:
            for many in range(6, 21):
                further = [(one, other) for one, other in pairs_of(many) if other >= 5]
                for pairs in [[], further, further[::2], further[1::3]]:
                    with self.subTest(order=order, many=many, pairs=pairs):
                        hall = hall_of(many, ring_pairs(order) + pairs)
                        self.assertIsNotNone(a_three(hall))
                        self.check_a_three(hall)

    def test_a_ring_of_the_last_five_guests(self):
        for many in range(6, 21):
            order = [many - 1, many - 4, many - 2, many - 5, many - 3]
            self.check_a_three(hall_of(many, ring_pairs(order)))

    def test_ahead_of_and_behind_a_meeting_and_a_parting(self):
        hall = Hall(3)
        self.assertEqual(a_three(hall), (0, 1, 2))
        hall.meet(0, 2)
        self.assertIsNone(a_three(hall))
        hall.part(2, 0)
        self.assertEqual(a_three(hall), (0, 1, 2))


class RingTest(unittest.TestCase):

    def check_is_ring(self, hall, order):
        self.assertIs(order.__class__, list)
        self.assertEqual([guest.__class__ for guest in order], [int] * 5)
        self.assertEqual(sorted(order), [0, 1, 2, 3, 4])
        neighbours = sorted(tuple(sorted(pair)) for pair in ring_pairs(order))
        self.assertEqual(told(hall), expected(5, neighbours))

    def test_every_hall_of_five_guests(self):
        rings = 0
        for hall, many, pairs in small_halls(5):
            if many == 5:
                order = ring(hall)
                if threes_by_hand(hall):
                    self.assertIsNone(order)
                else:
                    rings += 1
                    self.check_is_ring(hall, order)
                self.assertEqual(told(hall), expected(5, pairs))
        self.assertEqual(rings, 12)

    def test_every_order_of_the_ring(self):
        for order in permutations(range(5)):
            with self.subTest(order=order):
                hall = hall_of(5, ring_pairs(order))
                self.check_is_ring(hall, ring(hall))

    def test_ahead_of_and_behind_a_meeting_and_a_parting(self):
        hall = hall_of(5, ring_pairs([0, 2, 4, 1, 3]))
        self.check_is_ring(hall, ring(hall))
        hall.meet(0, 1)
        self.assertIsNone(ring(hall))
        hall.part(0, 1)
        self.check_is_ring(hall, ring(hall))
        hall.part(2, 4)
        self.assertIsNone(ring(hall))

    def test_other_halls_are_refused(self):
        for many in [1, 2, 3, 4] + list(range(6, 21)):
            for pairs in some_pairs(many):
                with self.subTest(many=many, pairs=pairs):
                    hall = hall_of(many, pairs)
                    check_refused(self, BadHall, ring, hall)
                    self.assertEqual(told(hall), expected(many, pairs))

    def test_other_halls_that_are_rings_or_have_no_three_are_refused(self):
        for many in [3, 4] + list(range(6, 21)):
            check_refused(self, BadHall, ring, hall_of(many, ring_pairs(list(range(many)))))
        check_refused(self, BadHall, ring, hall_of(4, [(0, 1), (2, 3)]))

    def test_a_told_list_is_the_askers_own(self):
        hall = hall_of(5, ring_pairs([3, 0, 4, 1, 2]))
        first = ring(hall)
        second = ring(hall)
        self.assertIsNot(first, second)
        first.append(9)
        first[0] = 7
        self.check_is_ring(hall, ring(hall))
        first.clear()
        self.check_is_ring(hall, ring(hall))
        self.check_is_ring(hall, second)


class LeastTest(unittest.TestCase):

    def test_1_to_20_guests(self):
        for many in range(1, 21):
            with self.subTest(many=many):
                self.assertEqual(least(many), LEAST[many - 1])
                self.assertIs(least(many).__class__, int)

    def test_of_all_small_halls(self):
        fewest = {}
        for hall, many, pairs in small_halls(5):
            fewest[many] = min(fewest.get(many, FAR), len(threes_by_hand(hall)))
        self.assertEqual(fewest, {many: least(many) for many in range(1, 6)})

    def test_of_all_halls_of_six_and_seven_guests(self):
        # Halls as the bits of a number, walked so that one pair changes at a
        # time and only the threes with that pair have to be counted anew.
        for many in [6, 7]:
            with self.subTest(many=many):
                self.assertEqual(self.fewest_of_all(many), least(many))

    def fewest_of_all(self, many):
        pairs = pairs_of(many)
        place = {pair: 1 << at for at, pair in enumerate(pairs)}
        beside = []
        for one, other in pairs:
            thirds = [guest for guest in range(many) if guest not in (one, other)]
            beside.append([(place[min(one, third), max(one, third)], place[min(other, third), max(other, third)])
                           for third in thirds])
        state = 0
        number = fewest = len(threes_by_hand(Hall(many)))
        for step in range(1, 2 ** len(pairs)):
            at = (step & -step).bit_length() - 1
            value = state >> at & 1
            for left, right in beside[at]:
                first = state & left != 0
                if first == (state & right != 0):
                    number += -1 if first == value else 1
            state ^= 1 << at
            fewest = min(fewest, number)
        return fewest

    def test_no_hall_that_is_tried_has_fewer(self):
        for hall, many, pairs in larger_halls():
            with self.subTest(many=many, pairs=pairs):
                self.assertGreaterEqual(len(threes_by_hand(hall)), least(many))

    def test_going_down_from_mixed_halls_gets_no_lower(self):
        for many in range(6, 21):
            for seed in [10, 11]:
                with self.subTest(many=many, seed=seed):
                    hall = hall_of(many, mixed_pairs(many, seed))
                    self.go_down(hall)
                    self.assertGreaterEqual(len(threes_by_hand(hall)), least(many))

    def go_down(self, hall):
        number = how_many(hall)
        better = True
        while better:
            better = False
            for pair in pairs_of(hall.many()):
                change(hall, *pair)
                if how_many(hall) < number:
                    number = how_many(hall)
                    better = True
                else:
                    change(hall, *pair)

    def test_other_numbers_are_refused(self):
        for many in NO_NUMBERS_OF_GUESTS:
            with self.subTest(negative=many < 0, figures=many.bit_length()):
                check_refused(self, BadHall, least, many)


class SparseTest(unittest.TestCase):

    def test_1_to_20_guests(self):
        for many in range(1, 21):
            with self.subTest(many=many):
                hall = sparse(many)
                self.assertIs(hall.__class__, Hall)
                self.assertEqual(hall.many(), many)
                self.assertEqual(len(threes_by_hand(hall)), LEAST[many - 1])
                self.assertEqual(how_many(hall), least(many))

    def test_no_change_of_one_pair_has_fewer(self):
        for many in range(2, 21):
            hall = sparse(many)
            for pair in pairs_of(many):
                change(hall, *pair)
                self.assertGreaterEqual(how_many(hall), least(many))
                change(hall, *pair)

    def test_a_told_hall_is_the_askers_own(self):
        for many in range(2, 21):
            with self.subTest(many=many):
                hall = sparse(many)
                other = sparse(many)
                self.assertIsNot(hall, other)
                first = told(other)
                for pair in pairs_of(many):
                    change(hall, *pair)
                change(hall, 0, 1)
                self.assertEqual(told(other), first)
                self.assertEqual(len(threes_by_hand(sparse(many))), LEAST[many - 1])
                self.assertEqual(least(many), LEAST[many - 1])

    def test_other_numbers_are_refused(self):
        for many in NO_NUMBERS_OF_GUESTS:
            with self.subTest(negative=many < 0, figures=many.bit_length()):
                check_refused(self, BadHall, sparse, many)


if __name__ == "__main__":
    unittest.main()

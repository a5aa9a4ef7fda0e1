import unittest

from helper import expected, hall_of, large_pairs, pairs_of, small_halls, some_pairs, threes_by_hand, told
from knowthree.hall import Hall, turned
from knowthree.threes import a_three, how_many, threes


def others_of(many, pairs):
    return [pair for pair in pairs_of(many) if pair not in pairs]


class TurnedTest(unittest.TestCase):

    def test_every_small_hall(self):
        for hall, many, pairs in small_halls(5):
            about = turned(hall)
            self.assertIs(about.__class__, Hall)
            self.assertEqual(told(about), expected(many, others_of(many, pairs)))
            self.assertEqual(told(hall), expected(many, pairs))

    def test_larger_halls(self):
        for many in range(6, 21):
            for pairs in [[], pairs_of(many), large_pairs(many)]:
                with self.subTest(many=many, pairs=pairs):
                    hall = hall_of(many, pairs)
                    self.assertEqual(told(turned(hall)), expected(many, others_of(many, pairs)))
                    self.assertEqual(told(hall), expected(many, pairs))

    def test_turned_twice_is_as_at_first(self):
        for many in range(1, 21):
            with self.subTest(many=many):
                hall = hall_of(many, large_pairs(many))
                again = turned(turned(hall))
                self.assertIsNot(again, hall)
                self.assertEqual(told(again), told(hall))

    def check_threes_are_the_same(self, hall):
        about = turned(hall)
        self.assertEqual(threes_by_hand(about), threes_by_hand(hall))
        self.assertEqual(threes(about), threes(hall))
        self.assertEqual(how_many(about), how_many(hall))
        self.assertEqual(a_three(about) is None, a_three(hall) is None)

    def test_the_threes_of_every_small_hall_are_the_same(self):
        for hall, many, pairs in small_halls(5):
            self.check_threes_are_the_same(hall)

    def test_the_threes_of_larger_halls_are_the_same(self):
        for many in range(6, 21):
            for pairs in some_pairs(many):
                with self.subTest(many=many, pairs=pairs):
                    self.check_threes_are_the_same(hall_of(many, pairs))

    def test_a_change_in_either_leaves_the_other(self):
        hall = hall_of(5, [(0, 1), (1, 4)])
        about = turned(hall)
        turned_first = told(about)
        hall.meet(2, 3)
        hall.part(0, 1)
        self.assertEqual(told(about), turned_first)
        hall_then = told(hall)
        about.meet(0, 1)
        about.part(2, 4)
        self.assertEqual(told(hall), hall_then)
        self.assertEqual(hall_then, expected(5, [(1, 4), (2, 3)]))

    def test_a_change_behind_two_turns_leaves_the_first(self):
        hall = hall_of(3, [(0, 1)])
        again = turned(turned(hall))
        again.part(0, 1)
        self.assertEqual(told(hall), expected(3, [(0, 1)]))
        hall.meet(1, 2)
        self.assertEqual(told(again), expected(3, []))

    def test_each_turning_is_a_new_hall(self):
        hall = hall_of(3, [(0, 1)])
        one = turned(hall)
        other = turned(hall)
        one.part(1, 2)
        self.assertEqual(told(other), expected(3, [(0, 2), (1, 2)]))


if __name__ == "__main__":
    unittest.main()

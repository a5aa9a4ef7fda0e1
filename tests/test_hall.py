import unittest

from helper import FAR, expected, hall_of, large_pairs, pairs_of, small_halls, told
from knowthree.errors import BadHall, KnowAlready, NoGuest, SameGuest, Strangers
from knowthree.hall import Hall


def no_guests(many):
    return [-1, -2, -many, -many - 1, -FAR, many, many + 1, 20, 21, 1000, FAR]


class MakingTest(unittest.TestCase):

    def test_every_number_from_1_to_20(self):
        for many in range(1, 21):
            with self.subTest(many=many):
                self.assertEqual(Hall(many).many(), many)

    def test_all_are_strangers_at_first(self):
        for many in range(1, 21):
            with self.subTest(many=many):
                self.assertEqual(told(Hall(many)), expected(many, []))

    def test_other_numbers_are_refused(self):
        for many in [0, 21, 22, 100, 10 ** 9, -1, -2, -20, -10 ** 9]:
            with self.subTest(many=many):
                self.assertRaises(BadHall, Hall, many)

    def test_numbers_too_long_to_write_are_refused(self):
        self.assertRaises(BadHall, Hall, FAR)
        self.assertRaises(BadHall, Hall, -FAR)

    def test_one_guest_alone(self):
        hall = Hall(1)
        self.assertEqual(hall.known(0), [])
        self.assertEqual(hall.strangers(0), [])
        self.assertRaises(SameGuest, hall.meet, 0, 0)
        self.assertRaises(NoGuest, hall.meet, 0, 1)


class MeetingTest(unittest.TestCase):

    def test_what_is_given_back(self):
        hall = Hall(3)
        self.assertIs(hall.know(0, 2), False)
        self.assertIsNone(hall.meet(0, 2))
        self.assertIs(hall.know(0, 2), True)
        self.assertIsNone(hall.part(0, 2))
        self.assertIs(hall.know(0, 2), False)

    def test_both_orders(self):
        for one, other in [(0, 3), (3, 0), (1, 2), (2, 1)]:
            with self.subTest(one=one, other=other):
                hall = Hall(4)
                hall.meet(one, other)
                self.assertIs(hall.know(one, other), True)
                self.assertIs(hall.know(other, one), True)
                hall.part(other, one)
                self.assertIs(hall.know(one, other), False)
                self.assertIs(hall.know(other, one), False)

    def test_meeting_parting_and_meeting_again(self):
        hall = Hall(5)
        for turn in range(3):
            with self.subTest(turn=turn):
                hall.meet(4, 1)
                self.assertEqual(told(hall), expected(5, [(1, 4)]))
                hall.part(4, 1)
                self.assertEqual(told(hall), expected(5, []))
        hall.meet(1, 4)
        self.assertEqual(told(hall), expected(5, [(1, 4)]))

    def test_one_pair_changes_no_other(self):
        for many in [2, 3, 20]:
            for pair in pairs_of(many):
                with self.subTest(many=many, pair=pair):
                    hall = hall_of(many, [pair])
                    self.assertEqual(told(hall), expected(many, [pair]))

    def test_one_parting_changes_no_other(self):
        pairs = pairs_of(6)
        for pair in pairs:
            with self.subTest(pair=pair):
                hall = hall_of(6, pairs)
                hall.part(pair[1], pair[0])
                self.assertEqual(told(hall), expected(6, [other for other in pairs if other != pair]))

    def test_every_small_hall(self):
        for hall, many, pairs in small_halls(4):
            with self.subTest(many=many, pairs=pairs):
                self.assertEqual(told(hall), expected(many, pairs))

    def test_twenty_guests(self):
        some = large_pairs(20)
        for pairs in [pairs_of(20), some, some[::-1]]:
            with self.subTest(pairs=pairs):
                self.assertEqual(told(hall_of(20, pairs)), expected(20, pairs))

    def test_two_halls_side_by_side(self):
        one = Hall(4)
        other = Hall(4)
        one.meet(0, 1)
        one.meet(2, 3)
        self.assertEqual(told(other), expected(4, []))
        other.meet(0, 2)
        self.assertEqual(told(one), expected(4, [(0, 1), (2, 3)]))
        one.part(0, 1)
        self.assertEqual(told(other), expected(4, [(0, 2)]))
        self.assertEqual(told(one), expected(4, [(2, 3)]))


class RefusalTest(unittest.TestCase):

    def refused(self, error, hall, name, *arguments):
        """The call raises this very error, and the hall stays as it was."""
        before = told(hall)
        with self.assertRaises(error) as taken:
            getattr(hall, name)(*arguments)
        self.assertIs(taken.exception.__class__, error)
        self.assertEqual(told(hall), before)

    def test_no_guest_as_the_first_the_second_and_both(self):
        for many in [1, 2, 5]:
            for pairs in [[], pairs_of(many)]:
                for bad in no_guests(many):
                    for name in ["meet", "part", "know"]:
                        hall = hall_of(many, pairs)
                        for guest in range(many):
                            self.refused(NoGuest, hall, name, bad, guest)
                            self.refused(NoGuest, hall, name, guest, bad)
                        self.refused(NoGuest, hall, name, bad, bad)
                        self.refused(NoGuest, hall, name, bad, -1)
                        self.refused(NoGuest, hall, name, many, bad)

    def test_no_guest_of_a_full_hall(self):
        for pairs in [[], large_pairs(20), pairs_of(20)]:
            hall = hall_of(20, pairs)
            for name in ["meet", "part", "know"]:
                for bad in [-1, -20, 20, 21, FAR]:
                    self.refused(NoGuest, hall, name, bad, 19)
                    self.refused(NoGuest, hall, name, 19, bad)
                    self.refused(NoGuest, hall, name, bad, bad)

    def test_one_guest_twice(self):
        for many in [1, 2, 5, 20]:
            for pairs in [[], large_pairs(many), pairs_of(many)]:
                hall = hall_of(many, pairs)
                for guest in range(many):
                    for name in ["meet", "part", "know"]:
                        self.refused(SameGuest, hall, name, guest, guest)

    def test_two_who_know_one_another_meet(self):
        for hall, many, pairs in small_halls(4):
            for one, other in pairs:
                self.refused(KnowAlready, hall, "meet", one, other)
                self.refused(KnowAlready, hall, "meet", other, one)

    def test_two_strangers_part(self):
        for hall, many, pairs in small_halls(4):
            for one, other in pairs_of(many):
                if (one, other) not in pairs:
                    self.refused(Strangers, hall, "part", one, other)
                    self.refused(Strangers, hall, "part", other, one)

    def test_meeting_and_parting_twice(self):
        hall = hall_of(20, large_pairs(20))
        for one, other in large_pairs(20):
            hall.part(other, one)
            self.refused(Strangers, hall, "part", one, other)
            hall.meet(other, one)
            self.refused(KnowAlready, hall, "meet", one, other)

    def test_a_hall_goes_on_behind_refusals(self):
        hall = Hall(3)
        self.refused(Strangers, hall, "part", 0, 1)
        hall.meet(0, 1)
        self.refused(KnowAlready, hall, "meet", 1, 0)
        hall.part(1, 0)
        self.assertEqual(told(hall), expected(3, []))


class ListsTest(unittest.TestCase):

    def test_ahead_of_and_behind_a_meeting_and_a_parting(self):
        hall = Hall(5)
        self.assertEqual(hall.known(2), [])
        self.assertEqual(hall.strangers(2), [0, 1, 3, 4])
        hall.meet(2, 4)
        hall.meet(0, 2)
        hall.meet(3, 2)
        self.assertEqual(hall.known(2), [0, 3, 4])
        self.assertEqual(hall.strangers(2), [1])
        self.assertEqual(hall.known(4), [2])
        self.assertEqual(hall.strangers(4), [0, 1, 3])
        hall.part(3, 2)
        self.assertEqual(hall.known(2), [0, 4])
        self.assertEqual(hall.strangers(2), [1, 3])
        self.assertEqual(hall.known(3), [])
        self.assertEqual(hall.strangers(3), [0, 1, 2, 4])

    def test_they_are_lists_of_whole_numbers(self):
        hall = hall_of(20, large_pairs(20))
        for guest in range(20):
            for others in [hall.known(guest), hall.strangers(guest)]:
                self.assertIs(others.__class__, list)
                self.assertTrue(all(other.__class__ is int for other in others))

    def test_rising_without_the_guest_and_whole_together(self):
        hall = hall_of(20, large_pairs(20)[::-1])
        for guest in range(20):
            known = hall.known(guest)
            strangers = hall.strangers(guest)
            self.assertEqual(known, sorted(set(known)))
            self.assertEqual(strangers, sorted(set(strangers)))
            self.assertNotIn(guest, known + strangers)
            self.assertEqual(sorted(known + strangers + [guest]), list(range(20)))

    def test_no_guest(self):
        for many in [1, 5, 20]:
            hall = hall_of(many, pairs_of(many)[::2])
            before = told(hall)
            for bad in no_guests(many):
                with self.subTest(many=many, negative=bad < 0, figures=bad.bit_length()):
                    self.assertRaises(NoGuest, hall.known, bad)
                    self.assertRaises(NoGuest, hall.strangers, bad)
                    self.assertEqual(told(hall), before)

    def test_a_told_list_is_the_askers_own(self):
        hall = hall_of(5, [(0, 1), (0, 3)])
        before = told(hall)
        for ask in [hall.known, hall.strangers]:
            for guest in range(5):
                first = ask(guest)
                second = ask(guest)
                self.assertIsNot(first, second)
                first.append(99)
                first.reverse()
                self.assertEqual(told(hall), before)
                first.clear()
                self.assertEqual(second, ask(guest))
                self.assertEqual(told(hall), before)

    def test_a_told_list_stays_when_the_hall_changes(self):
        hall = hall_of(4, [(0, 1)])
        known = hall.known(0)
        strangers = hall.strangers(0)
        hall.meet(0, 2)
        hall.part(0, 1)
        self.assertEqual(known, [1])
        self.assertEqual(strangers, [2, 3])


if __name__ == "__main__":
    unittest.main()

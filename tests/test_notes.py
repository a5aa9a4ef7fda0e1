import re
import unittest

from helper import (
    change,
    check_refused,
    expected,
    hall_of,
    mixed_pairs,
    pairs_of,
    small_halls,
    some_pairs,
    told,
)
from knowthree.errors import NoText
from knowthree.hall import Hall
from knowthree.notes import read, shown

SIGNS = "\t\n" + "".join(chr(number) for number in range(32, 127))
FORM = re.compile("guests ([1-9]|1[0-9]|20)\n((?:(?:[0-9]|[1-9][0-9]) (?:[0-9]|[1-9][0-9])\n)*)")


def written(many, pairs):
    """Point 9, from the pairs alone."""
    text = "guests " + str(many) + "\n"
    for one, other in sorted(pairs):
        text += str(one) + " " + str(other) + "\n"
    return text


def read_by_hand(text):
    """The number of guests and the pairs, or None where point 9 refuses the text."""
    match = FORM.fullmatch(text)
    if match is None:
        return None
    many = int(match[1])
    pairs = [tuple(int(word) for word in line.split(" ")) for line in match[2].split("\n")[:-1]]
    if len(set(pairs)) < len(pairs) or any(one >= other or other >= many for one, other in pairs):
        return None
    return many, pairs


class ShownTest(unittest.TestCase):

    def test_written_out(self):
        self.assertEqual(shown(Hall(1)), "guests 1\n")
        self.assertEqual(shown(Hall(20)), "guests 20\n")
        self.assertEqual(shown(hall_of(2, [(1, 0)])), "guests 2\n0 1\n")
        self.assertEqual(shown(hall_of(4, [(3, 1), (2, 0), (1, 0)])), "guests 4\n0 1\n0 2\n1 3\n")
        hall = hall_of(13, [(12, 2), (2, 10), (11, 10), (9, 2), (0, 12), (1, 2)])
        self.assertEqual(shown(hall), "guests 13\n0 12\n1 2\n2 9\n2 10\n2 12\n10 11\n")

    def test_every_hall_of_1_to_5_guests(self):
        for hall, many, pairs in small_halls(5):
            text = shown(hall)
            self.assertIs(text.__class__, str)
            self.assertEqual(text, written(many, pairs))
            self.assertEqual(told(hall), expected(many, pairs))

    def test_halls_of_6_to_20_guests(self):
        for many in range(6, 21):
            for pairs in some_pairs(many):
                with self.subTest(many=many, pairs=pairs):
                    self.assertEqual(shown(hall_of(many, pairs)), written(many, pairs))
                    self.assertEqual(shown(hall_of(many, pairs[::-1])), written(many, pairs))

    def test_ahead_of_and_behind_a_meeting_and_a_parting(self):
        hall = hall_of(12, [(0, 11)])
        self.assertEqual(shown(hall), "guests 12\n0 11\n")
        hall.meet(10, 2)
        self.assertEqual(shown(hall), "guests 12\n0 11\n2 10\n")
        hall.part(11, 0)
        self.assertEqual(shown(hall), "guests 12\n2 10\n")


class ReadTest(unittest.TestCase):

    def check_read(self, text, many, pairs):
        hall = read(text)
        self.assertIs(hall.__class__, Hall)
        self.assertEqual(told(hall), expected(many, pairs))

    def test_written_out(self):
        self.check_read("guests 1\n", 1, [])
        self.check_read("guests 9\n", 9, [])
        self.check_read("guests 10\n", 10, [])
        self.check_read("guests 20\n", 20, [])
        self.check_read("guests 2\n0 1\n", 2, [(0, 1)])
        self.check_read("guests 20\n18 19\n0 19\n9 10\n0 1\n", 20, [(18, 19), (0, 19), (9, 10), (0, 1)])

    def test_every_hall_of_1_to_5_guests(self):
        for hall, many, pairs in small_halls(5):
            self.check_read(shown(hall), many, pairs)

    def test_lines_in_any_order(self):
        for many in range(2, 21):
            for pairs in some_pairs(many):
                with self.subTest(many=many, pairs=pairs):
                    lines = [str(one) + " " + str(other) + "\n" for one, other in pairs]
                    for order in [lines, lines[::-1], lines[1::2] + lines[::2], sorted(lines)]:
                        text = "guests " + str(many) + "\n" + "".join(order)
                        self.check_read(text, many, pairs)
                        self.assertEqual(shown(read(text)), written(many, pairs))

    def test_a_change_in_either_hall_leaves_the_other(self):
        for many in range(2, 21):
            with self.subTest(many=many):
                pairs = mixed_pairs(many, 9)
                hall = hall_of(many, pairs)
                other = read(shown(hall))
                self.assertIsNot(other, hall)
                for pair in pairs_of(many):
                    change(other, *pair)
                self.assertEqual(told(hall), expected(many, pairs))
                changed = told(other)
                change(hall, 0, 1)
                change(hall, many - 2, many - 1)
                self.assertEqual(told(other), changed)

    def test_each_reading_is_a_new_hall(self):
        first = read("guests 3\n0 2\n")
        second = read("guests 3\n0 2\n")
        first.part(0, 2)
        first.meet(1, 2)
        self.assertEqual(told(second), expected(3, [(0, 2)]))
        self.check_read("guests 3\n0 2\n", 3, [(0, 2)])


class NoTextTest(unittest.TestCase):

    def check_no_texts(self, texts):
        for text in texts:
            with self.subTest(text=text[:60]):
                check_refused(self, NoText, read, text)

    def test_no_first_line(self):
        self.check_no_texts(["0 1\n", "0 1\n1 2\n", "5\n", "5\n0 1\n", "\n", "\n\n", "0\n", "20\n0 1\n", "1 2\n"])

    def test_the_empty_text(self):
        self.check_no_texts(["", " ", "\t", "  ", "\n"])

    def test_a_spoiled_first_line(self):
        self.check_no_texts(["guest 5\n", "Guests 5\n", "GUESTS 5\n", "guestss 5\n", "guests\n", "guests \n",
                             "guests5\n", "guests five\n", "guests 5 5\n", "guests 5 0\n", "5 guests\n", "guests: 5\n",
                             "guests,5\n", "guests=5\n", "guests 5.\n", "guests 5;0 1\n", "guests 5 0 1\n",
                             "guests guests\n", "xguests 5\n", "hall 5\n", " 5\n", "guests 5\\n", "guests '5'\n", "guests 0x5\n"])

    def test_the_first_line_at_another_place(self):
        self.check_no_texts(["0 1\nguests 5\n", "0 1\nguests 5\n1 2\n", "\nguests 5\n", "guests 5\nguests 5\n",
                             "guests 5\n0 1\nguests 5\n", "guests 5\nguests 4\n", "guests 5\nguests 1\n"])

    def test_a_number_of_guests_that_is_not_1_to_20(self):
        for many in [0, -1, -5, -20, 21, 22, 30, 99, 100, 120, 200, 1000]:
            self.check_no_texts([f"guests {many}\n", f"guests {many}\n0 1\n"])
        self.check_no_texts(["guests 21\n19 20\n", "guests 0\n0 0\n"])

    def test_a_number_that_is_no_guest(self):
        for many in range(1, 21):
            for bad in [many, many + 1, 21, 99]:
                for guest in [0, many - 1]:
                    self.check_no_texts([f"guests {many}\n{guest} {bad}\n", f"guests {many}\n{bad} {bad + 1}\n"])
        self.check_no_texts(["guests 5\n0 1\n1 2\n4 5\n", "guests 5\n-1 0\n", "guests 5\n0 -1\n", "guests 5\n-2 -1\n",
                             "guests 1\n0 1\n", "guests 5\n5 6\n0 1\n"])

    def test_one_guest_twice(self):
        for many in [1, 2, 5, 20]:
            for guest in range(many):
                self.check_no_texts([f"guests {many}\n{guest} {guest}\n"])
        self.check_no_texts(["guests 5\n0 1\n2 2\n", "guests 5\n3 3\n0 1\n"])

    def test_the_greater_one_first(self):
        for many in [2, 5, 20]:
            for one, other in pairs_of(many):
                self.check_no_texts([f"guests {many}\n{other} {one}\n"])
        # As texts these two stand in the other order than as numbers.
        self.check_no_texts(["guests 20\n10 9\n", "guests 20\n10 2\n", "guests 20\n0 1\n3 2\n",
                             "guests 20\n3 2\n0 1\n"])

    def test_two_guests_told_twice(self):
        self.check_no_texts(["guests 2\n0 1\n0 1\n", "guests 5\n0 1\n2 3\n0 1\n", "guests 5\n0 1\n1 0\n",
                             "guests 5\n1 0\n0 1\n", "guests 20\n18 19\n0 1\n18 19\n", "guests 5\n0 1\n0 1\n0 1\n"])
        for pair in pairs_of(20):
            text = shown(hall_of(20, pairs_of(20))) + str(pair[0]) + " " + str(pair[1]) + "\n"
            self.check_no_texts([text])

    def test_a_needless_nought(self):
        self.check_no_texts(["guests 05\n", "guests 01\n", "guests 00\n", "guests 005\n", "guests 020\n",
                             "guests 5\n00 1\n", "guests 5\n0 01\n", "guests 5\n01 2\n", "guests 5\n1 02\n",
                             "guests 20\n0 010\n", "guests 20\n010 11\n", "guests 5\n000 1\n", "guests 5\n00 01\n"])

    def test_numbers_of_more_than_two_figures(self):
        self.check_no_texts(["guests 100\n", "guests 111\n", "guests 200\n", "guests 5\n0 100\n", "guests 20\n0 119\n",
                             "guests 20\n100 101\n", "guests 20\n0 1234567890\n"])
        nines = "9" * 1900
        self.check_no_texts([f"guests {nines}\n", f"guests 5\n0 {nines}\n", f"guests 5\n{nines} 1\n"])
        # More figures than Python is willing to read as a number.
        many_nines = "9" * 6000
        self.check_no_texts([f"guests {many_nines}\n", f"guests 5\n0 {many_nines}\n"])

    def test_a_sign_in_the_place_of_a_figure(self):
        for sign in SIGNS:
            if not sign.isdigit():
                self.check_no_texts([f"guests {sign}\n", f"guests 1{sign}\n", f"guests {sign}1\n",
                                     f"guests 15\n{sign} 14\n", f"guests 15\n0 {sign}\n", f"guests 15\n0 1{sign}\n",
                                     f"guests 15\n0 {sign}1\n", f"guests 15\n1{sign} 14\n", f"guests 15\n{sign}1 14\n"])
        self.check_no_texts(["guests +5\n", "guests 1_0\n", "guests 5\n+0 1\n", "guests 5\n0 +1\n", "guests 5\n-0 1\n",
                             "guests 20\n0 1_0\n", "guests 5\n0 1.0\n", "guests 5\n0 1e0\n"])

    def test_blanks_more_or_less(self):
        self.check_no_texts([" guests 5\n", "guests 5 \n", "guests  5\n", "guests5\n", "gue sts 5\n", "guests 1 5\n",
                             "guests 5\n 0 1\n", "guests 5\n0 1 \n", "guests 5\n0  1\n", "guests 5\n01\n",
                             "guests 5\n0 1\n 2 3\n", "guests 5\n0 1\n2 3 \n", "guests 5\n0 \n", "guests 5\n 1\n",
                             "guests 5\n0 1 2\n", "guests 5\n ", "guests 5\n \n", "guests 5\n  \n", "guests 5\n0 1\n ",
                             "guests 15\n0 1 2\n", "guests 5\n1\n", "guests 5\n0\n", "guests 5\n0 1   2 3\n"])

    def test_a_tab(self):
        self.check_no_texts(["guests\t5\n", "\tguests 5\n", "guests 5\t\n", "guests \t5\n", "guests 5\n0\t1\n",
                             "guests 5\n\t0 1\n", "guests 5\n0 1\t\n", "guests 5\n0 \t1\n", "guests 5\n0\t 1\n",
                             "guests 5\n\t\n", "guests 5\n\t", "guests 5\n0 1\n\t"])

    def test_an_empty_line(self):
        self.check_no_texts(["\nguests 5\n", "guests 5\n\n", "guests 5\n\n0 1\n", "guests 5\n0 1\n\n",
                             "guests 5\n0 1\n\n2 3\n", "guests 5\n\n\n", "\n\n", "guests\n5\n", "guests 5\n0\n1\n"])

    def test_no_line_end_at_the_end(self):
        self.check_no_texts(["guests 5", "guests 1", "guests 5\n0 1", "guests 5\n0 1\n2 3", "guests", "g",
                             "guests 20\n0 1\n0"])
        for many in range(1, 21):
            self.check_no_texts([shown(hall_of(many, mixed_pairs(many, 7)))[:-1]])

    def test_signs_that_no_text_has(self):
        strange = ["\r", "\x0b", "\x0c", "\x00", "\x1c", "\x85", "\xa0", "\u2028", "\u00b2", "\u0663", "\uff11", "%",
                   "\ud800", "\U0001d7d9"]
        for sign in strange:
            self.check_no_texts([sign, f"guests {sign}\n", f"guests{sign}5\n", f"guests 5{sign}\n",
                                 f"guests 5{sign}0 1\n", f"{sign}guests 5\n", f"guests 5\n{sign} 1\n",
                                 f"guests 5\n0 {sign}\n", f"guests 5\n0 1{sign}\n", f"guests 5\n0{sign}1\n",
                                 f"guests 5\n0 1\n{sign}", f"guests 5\n0 1\n{sign}\n"])

    def test_long_texts(self):
        full = shown(hall_of(20, pairs_of(20)))
        self.check_no_texts([full + full, full + full[10:], "\n" * 2000, " " * 2000, "0 1\n" * 500, "guests 20\n" * 200,
                             "guests 20\n" + "0 1\n" * 497, "guests " + " " * 1990 + "5\n", "guests 5" + "\n" * 1992,
                             "guests 20\n" * 500, str(10 ** 4000) + "\n"])


class SpoiledTest(unittest.TestCase):
    """One sign of a good text changed, taken out or put in, held against a reading by hand."""

    def check_text(self, text):
        by_hand = read_by_hand(text)
        if by_hand is None:
            check_refused(self, NoText, read, text)
            return False
        self.assertEqual(told(read(text)), expected(*by_hand))
        return True

    def spoil(self, text):
        texts = {text}
        for place in range(len(text) + 1):
            texts.add(text[:place] + text[place + 1:])
            for sign in SIGNS:
                texts.add(text[:place] + sign + text[place + 1:])
                texts.add(text[:place] + sign + text[place:])
        return sorted(texts)

    def test_one_sign(self):
        for text in ["guests 1\n", "guests 12\n0 1\n", "guests 5\n0 4\n1 2\n", "guests 20\n2 13\n10 19\n0 1\n"]:
            answers = [self.check_text(spoiled) for spoiled in self.spoil(text)]
            self.assertIn(True, answers)
            self.assertIn(False, answers)

    def test_all_short_lines(self):
        words = ["", " ", "0", "1", "2", "3", "10", "01", "guests", "\n", "-1", "\t"]
        for one in words:
            for two in words:
                for three in words:
                    self.check_text("guests 3\n" + one + two + three)
                    self.check_text("guests 3\n" + one + " " + two + "\n" + three + "\n")
                    self.check_text(one + two + three + "\n")

    def test_lines_cut_off_anywhere(self):
        text = shown(hall_of(13, mixed_pairs(13, 1)))
        for place in range(len(text) + 1):
            self.check_text(text[:place])
            self.check_text(text[place:])


if __name__ == "__main__":
    unittest.main()

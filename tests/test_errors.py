import unittest

from knowthree import errors

SIX = [
    errors.NoGuest,
    errors.SameGuest,
    errors.KnowAlready,
    errors.Strangers,
    errors.BadHall,
    errors.NoText,
]


class ErrorsTest(unittest.TestCase):

    def test_hall_error_stands_under_value_error(self):
        self.assertTrue(issubclass(errors.HallError, ValueError))
        self.assertIsNot(errors.HallError, ValueError)

    def test_each_stands_under_hall_error(self):
        for error in SIX:
            with self.subTest(error=error):
                self.assertTrue(issubclass(error, errors.HallError))
                self.assertIsNot(error, errors.HallError)

    def test_none_stands_under_another(self):
        for error in SIX:
            for another in SIX:
                with self.subTest(error=error, another=another):
                    self.assertEqual(issubclass(error, another), SIX.index(error) == SIX.index(another))
        self.assertEqual(len(set(SIX)), 6)

    def test_each_bears_its_name(self):
        names = ["NoGuest", "SameGuest", "KnowAlready", "Strangers", "BadHall", "NoText"]
        self.assertEqual([error.__name__ for error in SIX], names)

    def test_each_is_raised_with_words_and_taken_as_hall_error(self):
        for error in SIX:
            with self.subTest(error=error):
                with self.assertRaises(errors.HallError) as taken:
                    raise error("words")
                self.assertIs(taken.exception.__class__, error)
                self.assertEqual(str(taken.exception), "words")


if __name__ == "__main__":
    unittest.main()

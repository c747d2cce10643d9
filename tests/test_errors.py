import unittest

from surejoin.errors import (
    Hangs, JoinError, NoBoxes, NoHead, NoKind, NoLine, NoName, NoNest, NoSteps, NoTurn, TooMuch,
)

OTHERS = (TooMuch, NoLine, NoNest, NoName, NoKind, Hangs, NoSteps, NoBoxes, NoTurn, NoHead)


class TestErrors(unittest.TestCase):
    def test_join_error_stands_under_value_error(self):
        self.assertEqual(JoinError.__bases__, (ValueError,))

    def test_the_others_stand_straight_under_join_error(self):
        for one in OTHERS:
            with self.subTest(one=one.__name__):
                self.assertEqual(one.__bases__, (JoinError,))

    def test_none_stands_under_another_one(self):
        self.assertEqual(len(set(OTHERS)), 10)
        for one in OTHERS:
            for other in OTHERS:
                self.assertEqual(issubclass(one, other), one is other)

    def test_each_is_raised_with_words_or_without_and_taken_as_itself_and_as_join_error(self):
        for one in OTHERS + (JoinError,):
            for taken in (one, JoinError, ValueError):
                with self.assertRaises(taken):
                    raise one("some words")
                with self.assertRaises(taken):
                    raise one


if __name__ == "__main__":
    unittest.main()

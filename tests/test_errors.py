"""The refusals of point 2 and of the interface."""

import unittest

from partsmith import errors
from partsmith.errors import BadDeed, BadScore, NoBar, NoLength, NoPlayer, NoStaff, ScoreError

PLAIN = (NoLength, NoPlayer, NoStaff, NoBar)
PLACED = (BadScore, BadDeed)


class Standing(unittest.TestCase):
    def test_score_error_stands_under_value_error(self):
        self.assertEqual(ScoreError.__bases__, (ValueError,))

    def test_each_refusal_stands_under_score_error_alone(self):
        for refusal in PLAIN + PLACED:
            with self.subTest(refusal=refusal.__name__):
                self.assertEqual(refusal.__bases__, (ScoreError,))

    def test_no_refusal_stands_under_another_one(self):
        for one in PLAIN + PLACED:
            for other in PLAIN + PLACED:
                with self.subTest(one=one.__name__, other=other.__name__):
                    self.assertEqual(issubclass(one, other), one is other)

    def test_names_are_the_classes_own(self):
        for refusal in PLAIN + PLACED + (ScoreError,):
            self.assertIs(getattr(errors, refusal.__name__), refusal)

    def test_each_is_taken_as_any_refusal(self):
        for refusal in PLAIN:
            with self.assertRaises(ScoreError):
                raise refusal("word")
        for refusal in PLACED:
            with self.assertRaises(ScoreError):
                raise refusal(0, "row")


class Fields(unittest.TestCase):
    def test_place_and_word(self):
        for refusal in PLACED:
            with self.subTest(refusal=refusal.__name__):
                error = refusal(17, "twice")
                self.assertEqual(error.place, 17)
                self.assertEqual(error.word, "twice")

    def test_fields_are_each_object_s_own(self):
        for refusal in PLACED:
            with self.subTest(refusal=refusal.__name__):
                first = refusal(0, "row")
                second = refusal(1, "name")
                self.assertEqual((first.place, first.word), (0, "row"))
                self.assertEqual((second.place, second.word), (1, "name"))

    def test_fields_of_a_taken_error(self):
        for refusal in PLACED:
            with self.assertRaises(refusal) as taken:
                raise refusal(3, "bar")
            self.assertEqual((taken.exception.place, taken.exception.word), (3, "bar"))

    def test_both_are_asked_for(self):
        for refusal in PLACED:
            with self.assertRaises(TypeError):
                refusal()
            with self.assertRaises(TypeError):
                refusal(3)


if __name__ == "__main__":
    unittest.main()

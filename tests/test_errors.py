"""foreseehall.errors: the interface's section of that name."""

import unittest

from foreseehall import errors

NAMES = ["NoWorld", "NoPlayer", "NoMark", "NoSentence", "NoRoom", "NoWay", "NoPlan", "NoPaper", "TooGreat", "NoNote"]


class TheErrors(unittest.TestCase):
    def test_any_refusal_is_a_value_error(self):
        self.assertEqual(errors.HallError.__bases__, (ValueError,))

    def test_the_ten_stand_straight_under_it(self):
        for name in NAMES:
            with self.subTest(name):
                kind = getattr(errors, name)
                self.assertEqual(kind.__name__, name)
                self.assertEqual(kind.__bases__, (errors.HallError,))

    def test_there_are_no_others_and_they_stand_in_order(self):
        kinds = [name for name, value in vars(errors).items() if isinstance(value, type)]
        self.assertEqual(kinds, ["HallError"] + NAMES)

    def test_each_is_taken_by_its_own_class_and_those_above_alone(self):
        for name in NAMES:
            for other in NAMES:
                with self.subTest(name=name, other=other):
                    told = getattr(errors, name)("words")
                    self.assertEqual(isinstance(told, getattr(errors, other)), name == other)
                    self.assertIsInstance(told, errors.HallError)
                    self.assertIsInstance(told, ValueError)
                    self.assertEqual(str(told), "words")


if __name__ == "__main__":
    unittest.main()

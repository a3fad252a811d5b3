"""[2] and the interface: the refusals."""

import unittest

from anymeaning.errors import MeaningError, NoName, NoProgram, NoRow, NoSaying, NoTest, NoWorld, TooMuch

REFUSALS = (NoTest, NoProgram, NoWorld, NoSaying, NoName, NoRow, TooMuch)


class ErrorsTest(unittest.TestCase):
    def test_base_is_a_value_error(self):
        self.assertTrue(issubclass(MeaningError, ValueError))
        self.assertIsNot(MeaningError, ValueError)

    def test_every_refusal_is_under_the_base(self):
        for refusal in REFUSALS:
            with self.subTest(refusal=refusal.__name__):
                self.assertTrue(issubclass(refusal, MeaningError))
                self.assertIsNot(refusal, MeaningError)

    def test_no_refusal_is_under_another_one(self):
        for one in REFUSALS:
            for other in REFUSALS:
                with self.subTest(one=one.__name__, other=other.__name__):
                    self.assertEqual(issubclass(one, other), one.__name__ == other.__name__)

    def test_names(self):
        names = [refusal.__name__ for refusal in REFUSALS]
        self.assertEqual(names, ["NoTest", "NoProgram", "NoWorld", "NoSaying", "NoName", "NoRow", "TooMuch"])
        self.assertEqual(len(set(REFUSALS)), 7)

    def test_each_is_taken_by_its_own_name_alone(self):
        for one in REFUSALS:
            for other in REFUSALS:
                with self.subTest(one=one.__name__, other=other.__name__):
                    try:
                        raise one("refused")
                    except other:
                        self.assertIs(one, other)
                    except MeaningError:
                        self.assertIsNot(one, other)

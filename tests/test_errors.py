import unittest

from ladderhall import errors

NAMES = ("NoRule", "NoPlace", "NoStep", "NoHouse", "NoMap", "TooGreat", "NoText")


class ErrorsTest(unittest.TestCase):
    def test_any_refusal_is_a_value_error(self):
        self.assertTrue(issubclass(errors.RiseError, ValueError))

    def test_each_stands_under_rise_error(self):
        for name in NAMES:
            with self.subTest(name):
                refusal = getattr(errors, name)
                self.assertTrue(issubclass(refusal, errors.RiseError))
                self.assertIsNot(refusal, errors.RiseError)

    def test_none_stands_under_another(self):
        for one in NAMES:
            for other in NAMES:
                if one != other:
                    with self.subTest(one=one, other=other):
                        self.assertFalse(issubclass(getattr(errors, one), getattr(errors, other)))

    def test_each_can_be_raised_with_words(self):
        for name in NAMES:
            with self.subTest(name):
                with self.assertRaises(errors.RiseError):
                    raise getattr(errors, name)("words")

import unittest

from closehaul import errors

NAMES = ("NoFraction", "NoText", "NoShares", "NoCourse", "NoWind", "NoDeed")


class Refusals(unittest.TestCase):
    """[0.4]"""

    def test_sail_error_stands_straight_beneath_value_error(self):
        self.assertEqual(errors.SailError.__bases__, (ValueError,))

    def test_each_refusal_stands_straight_beneath_sail_error(self):
        for name in NAMES:
            with self.subTest(name=name):
                self.assertEqual(getattr(errors, name).__bases__, (errors.SailError,))

    def test_no_refusal_stands_beneath_another_one(self):
        for one in NAMES:
            for other in NAMES:
                if one != other:
                    with self.subTest(one=one, other=other):
                        self.assertFalse(issubclass(getattr(errors, one), getattr(errors, other)))

    def test_each_has_its_own_name(self):
        for name in NAMES + ("SailError",):
            self.assertEqual(getattr(errors, name).__name__, name)

    def test_each_can_be_raised_with_words_and_without(self):
        for name in NAMES + ("SailError",):
            refusal = getattr(errors, name)
            with self.subTest(name=name):
                with self.assertRaises(refusal):
                    raise refusal("words")
                with self.assertRaises(ValueError):
                    raise refusal()


if __name__ == "__main__":
    unittest.main()

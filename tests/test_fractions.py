import random
import unittest
from fractions import Fraction

from closehaul.errors import NoFraction
from closehaul.fractions import added, divided, is_before, lowest, multiplied, taken
from tests.helper import is_fraction, pair

GREAT = 10 ** 600 - 1
SMALL = [(top, bottom) for top in range(-7, 8) for bottom in range(1, 8) if is_fraction((top, bottom))]


def great_fractions():
    """Fractions of up to 600 figures, the same ones each time."""
    source = random.Random(11)
    fractions = [(0, 1), (1, GREAT), (-1, GREAT), (GREAT, 1), (-GREAT, 1), (GREAT, GREAT - 1), (1 - GREAT, GREAT)]
    for figures in (1, 9, 60, 300, 600):
        for time in range(3):
            most = 10 ** figures - 1
            fractions.append(pair(Fraction(source.randint(-most, most), source.randint(1, most))))
    return fractions


class Lowest(unittest.TestCase):
    """[0.2] and [1.1]"""

    def test_small_numbers_of_either_sign(self):
        for top in range(-12, 13):
            for bottom in range(-12, 13):
                if bottom != 0:
                    with self.subTest(top=top, bottom=bottom):
                        told = lowest(top, bottom)
                        self.assertEqual(told, pair(Fraction(top, bottom)))
                        self.assertTrue(is_fraction(told))

    def test_by_hand(self):
        self.assertEqual(lowest(6, 4), (3, 2))
        self.assertEqual(lowest(-6, 4), (-3, 2))
        self.assertEqual(lowest(6, -4), (-3, 2))
        self.assertEqual(lowest(-6, -4), (3, 2))
        self.assertEqual(lowest(5, 7), (5, 7))
        self.assertEqual(lowest(12, 4), (3, 1))
        self.assertEqual(lowest(12, -4), (-3, 1))

    def test_nought(self):
        for bottom in (1, -1, 5, -5, GREAT, -GREAT):
            self.assertEqual(lowest(0, bottom), (0, 1))

    def test_numbers_of_600_figures(self):
        part = 10 ** 299 + 7
        self.assertEqual(lowest(6 * part, -4 * part), (-3, 2))
        self.assertEqual(lowest(-GREAT, GREAT), (-1, 1))
        self.assertEqual(lowest(GREAT, GREAT - 1), (GREAT, GREAT - 1))
        source = random.Random(1)
        for time in range(50):
            top = source.randint(-GREAT, GREAT)
            bottom = source.choice((-1, 1)) * source.randint(1, GREAT)
            told = lowest(top, bottom)
            self.assertEqual(told, pair(Fraction(top, bottom)))
            self.assertTrue(is_fraction(told))

    def test_long_division_chain(self):
        # Two neighbours in the row of Fibonacci need the most steps to find that they share nothing.
        one, other = 1, 1
        while other < 10 ** 599:
            one, other = other, one + other
        self.assertEqual(lowest(one, other), (one, other))
        self.assertEqual(lowest(one * 3, other * 3), (one, other))

    def test_bottom_of_nought_is_refused(self):
        for top in (0, 1, -1, 6, GREAT, -GREAT):
            with self.subTest(top=top):
                with self.assertRaises(NoFraction):
                    lowest(top, 0)


class Reckoning(unittest.TestCase):
    """[1.1]"""

    def check(self, one, other):
        first = Fraction(*one)
        second = Fraction(*other)
        asked = [(added, first + second), (taken, first - second), (multiplied, first * second)]
        if second != 0:
            asked.append((divided, first / second))
        for function, value in asked:
            told = function(one, other)
            self.assertEqual(told, pair(value), (function, one, other))
            self.assertTrue(is_fraction(told), (function, one, other))
        before = is_before(one, other)
        self.assertIs(before, first < second, (one, other))

    def test_small_ones(self):
        for one in SMALL:
            for other in SMALL:
                self.check(one, other)

    def test_great_ones(self):
        fractions = great_fractions()
        for one in fractions:
            for other in fractions:
                self.check(one, other)

    def test_by_hand(self):
        self.assertEqual(added((1, 6), (1, 3)), (1, 2))
        self.assertEqual(added((1, 2), (1, 2)), (1, 1))
        self.assertEqual(added((-1, 2), (1, 2)), (0, 1))
        self.assertEqual(taken((1, 6), (2, 3)), (-1, 2))
        self.assertEqual(taken((3, 4), (3, 4)), (0, 1))
        self.assertEqual(taken((7, 2), (3, 2)), (2, 1))
        self.assertEqual(multiplied((2, 3), (-9, 4)), (-3, 2))
        self.assertEqual(multiplied((2, 3), (3, 2)), (1, 1))
        self.assertEqual(multiplied((0, 1), (-9, 4)), (0, 1))
        self.assertEqual(divided((1, 2), (-3, 4)), (-2, 3))
        self.assertEqual(divided((-1, 2), (-1, 4)), (2, 1))
        self.assertEqual(divided((0, 1), (-5, 7)), (0, 1))

    def test_division_by_nought_is_refused(self):
        for one in [(0, 1), (1, 1), (-3, 4), (GREAT, GREAT - 1)]:
            with self.subTest(one=one):
                with self.assertRaises(NoFraction):
                    divided(one, (0, 1))

    def test_order_by_hand(self):
        self.assertIs(is_before((1, 3), (1, 2)), True)
        self.assertIs(is_before((1, 2), (1, 3)), False)
        self.assertIs(is_before((1, 2), (1, 2)), False)
        self.assertIs(is_before((0, 1), (0, 1)), False)
        self.assertIs(is_before((-1, 2), (-1, 3)), True)
        self.assertIs(is_before((-1, 3), (-1, 2)), False)
        self.assertIs(is_before((-1, 2), (1, 3)), True)
        self.assertIs(is_before((1, 3), (-1, 2)), False)
        self.assertIs(is_before((GREAT - 1, GREAT), (1, 1)), True)
        self.assertIs(is_before((GREAT, GREAT - 1), (1, 1)), False)

    def test_the_same_question_has_the_same_answer(self):
        """[0.3]"""
        one = (-3, 4)
        other = (5, 6)
        for function in (added, taken, multiplied, divided, is_before):
            first = function(one, other)
            function((1, 2), (-7, 3))
            self.assertEqual(function(one, other), first)
        self.assertEqual(lowest(-9, 12), lowest(-9, 12))
        self.assertEqual((one, other), ((-3, 4), (5, 6)))


if __name__ == "__main__":
    unittest.main()

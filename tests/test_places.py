import random
import unittest
from fractions import Fraction

from closehaul.places import along, east_of, north_of, place_added, place_of, place_taken, place_times
from tests.helper import is_fraction, is_place, pair, parts_of

START = (0, 0, 1)
GREAT = 10 ** 600 - 1


def small_fractions():
    return [(top, bottom) for top in range(-4, 5) for bottom in (1, 2, 3, 4, 6) if is_fraction((top, bottom))]


def small_places():
    return [(x, y, bottom) for x in range(-3, 4) for y in range(-3, 4) for bottom in (1, 2, 4, 6)
            if is_place((x, y, bottom))]


def great_places():
    """Places of up to 600 figures, the same ones each time."""
    source = random.Random(3)
    places = [START, (GREAT, -GREAT, GREAT - 1), (1, 0, GREAT), (0, -1, GREAT), (-GREAT, 0, 1)]
    while len(places) < 14:
        most = 10 ** source.choice((3, 60, 600)) - 1
        place = (source.randint(-most, most), source.randint(-most, most), source.randint(1, most))
        if is_place(place):
            places.append(place)
    return places


class Parts(unittest.TestCase):
    """[0.2]: a place lies x by bottom to the east, y by bottom to the north."""

    def test_by_hand(self):
        self.assertEqual(place_of((0, 1), (0, 1)), START)
        self.assertEqual(place_of((1, 2), (1, 3)), (3, 2, 6))
        self.assertEqual(place_of((1, 4), (-1, 6)), (3, -2, 12))
        self.assertEqual(place_of((1, 2), (3, 2)), (1, 3, 2))
        self.assertEqual(place_of((-5, 1), (7, 1)), (-5, 7, 1))
        self.assertEqual(place_of((0, 1), (-2, 5)), (0, -2, 5))
        self.assertEqual(east_of((3, -2, 12)), (1, 4))
        self.assertEqual(north_of((3, -2, 12)), (-1, 6))
        self.assertEqual(east_of((0, -2, 5)), (0, 1))
        self.assertEqual(north_of((4, 0, 5)), (0, 1))
        self.assertEqual(east_of((6, 1, 3)), (2, 1))
        self.assertEqual((east_of(START), north_of(START)), ((0, 1), (0, 1)))

    def test_small_fractions(self):
        for east in small_fractions():
            for north in small_fractions():
                place = place_of(east, north)
                self.assertTrue(is_place(place), place)
                self.assertEqual(parts_of(place), (Fraction(*east), Fraction(*north)))
                self.assertEqual((east_of(place), north_of(place)), (east, north))

    def test_places_come_back_from_their_parts(self):
        for place in small_places() + great_places():
            east, north = east_of(place), north_of(place)
            self.assertTrue(is_fraction(east))
            self.assertTrue(is_fraction(north))
            self.assertEqual((Fraction(*east), Fraction(*north)), parts_of(place))
            self.assertEqual(place_of(east, north), place)


class Sums(unittest.TestCase):
    """[1.3]"""

    def check(self, one, other):
        first, second = parts_of(one), parts_of(other)
        total = place_added(one, other)
        self.assertTrue(is_place(total), (one, other))
        self.assertEqual(parts_of(total), (first[0] + second[0], first[1] + second[1]))
        rest = place_taken(one, other)
        self.assertTrue(is_place(rest), (one, other))
        self.assertEqual(parts_of(rest), (first[0] - second[0], first[1] - second[1]))

    def test_by_hand(self):
        self.assertEqual(place_added((1, 1, 6), (1, 0, 3)), (3, 1, 6))
        self.assertEqual(place_added((1, 1, 6), (1, 1, 3)), (1, 1, 2))
        self.assertEqual(place_added((1, 3, 4), (3, 1, 4)), (1, 1, 1))
        self.assertEqual(place_added((1, -2, 3), (-1, 2, 3)), START)
        self.assertEqual(place_taken((1, -2, 3), (1, -2, 3)), START)
        self.assertEqual(place_taken((1, 1, 2), (1, 2, 6)), (2, 1, 6))
        self.assertEqual(place_taken(START, (1, -2, 3)), (-1, 2, 3))
        self.assertEqual(place_taken((1, -2, 3), START), (1, -2, 3))
        self.assertEqual(place_added((1, -2, 3), START), (1, -2, 3))
        self.assertEqual(place_added(START, START), START)

    def test_small_places(self):
        for one in small_places():
            for other in small_places():
                self.check(one, other)

    def test_great_places(self):
        for one in great_places():
            for other in great_places():
                self.check(one, other)


class Times(unittest.TestCase):
    """[1.3]"""

    def check(self, place, fraction):
        told = place_times(place, fraction)
        value = Fraction(*fraction)
        self.assertTrue(is_place(told), (place, fraction))
        self.assertEqual(parts_of(told), (parts_of(place)[0] * value, parts_of(place)[1] * value))

    def test_by_hand(self):
        self.assertEqual(place_times((3, -6, 4), (2, 3)), (1, -2, 2))
        self.assertEqual(place_times((3, -6, 4), (-4, 3)), (-1, 2, 1))
        self.assertEqual(place_times((3, -6, 4), (0, 1)), START)
        self.assertEqual(place_times((3, -6, 4), (1, 1)), (3, -6, 4))
        self.assertEqual(place_times(START, (-5, 7)), START)
        self.assertEqual(place_times((0, 2, 5), (1, 2)), (0, 1, 5))

    def test_small_places(self):
        for place in small_places():
            for fraction in small_fractions():
                self.check(place, fraction)

    def test_great_places(self):
        for place in great_places():
            for fraction in [(0, 1), (-1, 1), (GREAT, GREAT - 1), (-1, GREAT), (1 - GREAT, GREAT), (2, 3)]:
                self.check(place, fraction)


class Along(unittest.TestCase):
    """[1.3]"""

    def check(self, bearing, place):
        told = along(bearing, place)
        east, north = parts_of(place)
        self.assertTrue(is_fraction(told), (bearing, place))
        self.assertEqual(told, pair(bearing[0] * east + bearing[1] * north), (bearing, place))

    def test_by_hand(self):
        self.assertEqual(along((1, 0), (3, -2, 12)), (1, 4))
        self.assertEqual(along((0, 1), (3, -2, 12)), (-1, 6))
        self.assertEqual(along((0, -3), (3, -2, 12)), (1, 2))
        self.assertEqual(along((2, 3), (3, -2, 12)), (0, 1))
        self.assertEqual(along((-4, 6), (3, -2, 12)), (-2, 1))
        self.assertEqual(along((5, -7), START), (0, 1))

    def test_small_places(self):
        for a in range(-3, 4):
            for b in range(-3, 4):
                if (a, b) != (0, 0):
                    for place in small_places():
                        self.check((a, b), place)

    def test_great_places(self):
        for bearing in [(GREAT, -GREAT), (0, GREAT), (-GREAT, 0), (1, 1), (GREAT - 1, 2)]:
            for place in great_places():
                self.check(bearing, place)


class Repeated(unittest.TestCase):
    """[0.3]"""

    def test_the_same_question_has_the_same_answer(self):
        one = (3, -2, 12)
        other = (1, 5, 4)
        asked = [(place_of, ((1, 4), (-1, 6))), (east_of, (one,)), (north_of, (one,)), (place_added, (one, other)),
                 (place_taken, (one, other)), (place_times, (one, (-2, 3))), (along, ((2, -5), one))]
        first = [function(*handed) for function, handed in asked]
        self.assertEqual([function(*handed) for function, handed in asked], first)
        self.assertEqual((one, other), ((3, -2, 12), (1, 5, 4)))


if __name__ == "__main__":
    unittest.main()

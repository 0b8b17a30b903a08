import random
import unittest
from fractions import Fraction

from closehaul.bearings import dot_of, farthest, least_headings, parting_bearing, sides_of, turn_of
from tests.helper import (GREAT, all_winds, bearings_of_all_sizes, bow, can_be_sailed, check_told, far_of, how_far,
                          is_bearing, is_least_round, is_number, lattice, needed_headings, place_at, places_about,
                          random_wind, shuffled, small_winds)


class Turns(unittest.TestCase):
    """[2.1]"""

    def test_by_hand(self):
        self.assertEqual(turn_of((1, 0), (0, 1)), 1)
        self.assertEqual(turn_of((0, 1), (1, 0)), -1)
        self.assertEqual(turn_of((2, 3), (5, 7)), -1)
        self.assertEqual(turn_of((2, -3), (-4, 6)), 0)
        self.assertEqual(turn_of((0, 0), (5, 7)), 0)
        self.assertEqual(dot_of((1, 0), (0, 1)), 0)
        self.assertEqual(dot_of((2, 3), (5, 7)), 31)
        self.assertEqual(dot_of((2, -3), (-4, 6)), -26)
        self.assertEqual(dot_of((0, 0), (5, 7)), 0)

    def test_small_and_great_numbers(self):
        numbers = (-3, -1, 0, 2, GREAT, -GREAT)
        for a in numbers:
            for b in numbers:
                for c in numbers:
                    for d in numbers:
                        self.assertEqual(turn_of((a, b), (c, d)), a * d - b * c)
                        self.assertEqual(dot_of((a, b), (c, d)), a * c + b * d)
        self.assertTrue(is_number(turn_of((1, 2), (3, 4))))
        self.assertTrue(is_number(dot_of((1, 2), (3, 4))))


class Farthest(unittest.TestCase):
    """[2.2]"""

    def test_by_hand(self):
        wind = ((3, 1), (-2, 4), (0, -5), (3, 1))
        self.assertEqual(farthest(wind, (1, 0)), 3)
        self.assertEqual(farthest(wind, (-1, 0)), 2)
        self.assertEqual(farthest(wind, (0, 2)), 8)
        self.assertEqual(farthest(wind, (0, -1)), 5)
        self.assertEqual(farthest(wind, (-1, -1)), 5)
        self.assertEqual(farthest(((-3, -4),), (1, 1)), -7)

    def test_the_greatest_of_all_headings(self):
        for wind in all_winds():
            for bearing in bearings_of_all_sizes():
                told = farthest(wind, bearing)
                self.assertTrue(is_number(told))
                self.assertEqual(told, far_of(wind, bearing))
                self.assertEqual(farthest(wind[::-1], bearing), told)
                self.assertEqual(farthest(least_headings(wind), bearing), told)

    def test_no_place_that_can_be_sailed_lies_farther(self):
        for wind in small_winds():
            for place in places_about(wind):
                if can_be_sailed(wind, place):
                    for bearing in bearings_of_all_sizes():
                        self.assertLessEqual(how_far(bearing, place), farthest(wind, bearing) * place[2])

    def test_300_headings(self):
        wind = random_wind(random.Random(31), 300, GREAT)
        for bearing in bearings_of_all_sizes():
            self.assertEqual(farthest(wind, bearing), far_of(wind, bearing))


class LeastHeadings(unittest.TestCase):
    """[2.3]"""

    def check(self, wind):
        told = least_headings(wind)
        self.assertTrue(is_least_round(told), wind)
        self.assertEqual(set(told), needed_headings(wind), wind)
        self.assertEqual(least_headings(told), told)
        self.assertEqual(least_headings(told[::-1]), told)
        for seed in range(3):
            self.assertEqual(least_headings(shuffled(wind + wind[:3], seed)), told)

    def test_by_hand(self):
        for wind, told in [
            (((3, -2),), ((3, -2),)),
            (((3, -2), (3, -2)), ((3, -2),)),
            (((4, 0), (0, 0)), ((0, 0), (4, 0))),
            (((2, 5), (2, -1), (2, 0)), ((2, -1), (2, 5))),
            (((0, 0), (3, 3), (1, 1), (-1, -1)), ((-1, -1), (3, 3))),
            (((0, 0), (0, 3), (4, 0)), ((0, 0), (4, 0), (0, 3))),
            (((0, 0), (4, 0), (0, 3), (2, 0), (1, 1), (0, 1)), ((0, 0), (4, 0), (0, 3))),
            (((0, 1), (0, 0), (1, 1), (1, 0)), ((0, 0), (1, 0), (1, 1), (0, 1))),
            (lattice(4, 3), ((0, 0), (3, 0), (3, 2), (0, 2))),
            (((-1, 0), (1, 0), (0, 1), (0, -1), (0, 0)), ((-1, 0), (0, -1), (1, 0), (0, 1))),
            (((-GREAT, 0), (GREAT, 0), (0, 1), (0, 0)), ((-GREAT, 0), (GREAT, 0), (0, 1))),
            (((-GREAT, 0), (GREAT, 0), (0, -1), (0, 0)), ((-GREAT, 0), (0, -1), (GREAT, 0))),
        ]:
            with self.subTest(wind=wind):
                self.assertEqual(least_headings(wind), told)

    def test_winds_of_all_shapes(self):
        for wind in all_winds():
            self.check(wind)

    def test_all_winds_of_four_on_a_small_lattice(self):
        spots = lattice(3, 3)
        for one in spots:
            for other in spots:
                for third in spots:
                    for fourth in ((1, 1), (0, 2), third):
                        wind = (one, other, third, fourth)
                        told = least_headings(wind)
                        self.assertTrue(is_least_round(told), wind)
                        self.assertEqual(set(told), needed_headings(wind), wind)

    def test_300_headings(self):
        self.assertEqual(least_headings(shuffled(lattice(20, 15), 1)), ((0, 0), (19, 0), (19, 14), (0, 14)))
        self.assertEqual(least_headings(tuple((7 * k, -3 * k) for k in range(300))), ((0, 0), (2093, -897)))
        for times in (1, 10 ** 145):
            wind = shuffled(bow(300, times), 2)
            told = least_headings(wind)
            self.assertTrue(is_least_round(told))
            self.assertEqual(set(told), set(wind))
        wind = random_wind(random.Random(32), 300, GREAT)
        told = least_headings(wind)
        self.assertTrue(is_least_round(told))
        for heading in wind:
            self.assertTrue(can_be_sailed(told, (heading[0], heading[1], 1)))


class PartingBearing(unittest.TestCase):
    """[2.3]"""

    def check(self, one, other):
        for first, second in ((one, other), (other, one)):
            told = parting_bearing(first, second)
            if needed_headings(one) == needed_headings(other):
                self.assertIsNone(told, (first, second))
            else:
                self.assertTrue(is_bearing(told), (first, second))
                self.assertNotEqual(far_of(first, told), far_of(second, told), (first, second))

    def test_winds_of_all_shapes(self):
        winds = all_winds()
        for number, one in enumerate(winds):
            for other in winds[:number + 1]:
                self.check(one, other)

    def test_the_same_by_other_headings(self):
        for wind in all_winds():
            self.check(wind, shuffled(wind + wind, 5))
            self.check(wind, least_headings(wind))

    def test_one_heading_moved_by_one(self):
        for wind in all_winds():
            for number in range(min(len(wind), 4)):
                for east, north in ((1, 0), (-1, 0), (0, 1), (0, -1)):
                    moved = (wind[number][0] + east, wind[number][1] + north)
                    self.check(wind, wind[:number] + (moved,) + wind[number + 1:])
                    self.check(wind, wind + (moved,))

    def test_one_wind_within_another(self):
        self.check(((0, 0),), ((0, 0), (1, 0)))
        self.check(((0, 0), (2, 0)), ((0, 0), (1, 0)))
        self.check(((0, 0), (2, 0)), ((0, 0), (2, 0), (1, 1)))
        self.check(((0, 0), (9, 0), (0, 9)), ((1, 1), (2, 2)))
        self.check(((0, 0), (9, 0), (0, 9)), ((1, 1),))

    def test_300_headings(self):
        wind = bow(300, 10 ** 145)
        self.assertIsNone(parting_bearing(wind, shuffled(wind, 1)))
        other = wind[:77] + ((wind[77][0], wind[77][1] + 1),) + wind[78:]
        for first, second in ((wind, other), (other, wind)):
            bearing = parting_bearing(first, second)
            self.assertNotEqual(far_of(first, bearing), far_of(second, bearing))


class Sides(unittest.TestCase):
    """[2.4]"""

    def check(self, wind, places):
        sides = sides_of(wind)
        count = len(least_headings(wind))
        self.assertIs(type(sides), tuple)
        self.assertLessEqual(len(sides), 4 if count < 3 else count + 2)
        for bearing, most in sides:
            self.assertTrue(is_bearing(bearing))
            self.assertTrue(is_number(most))
            self.assertEqual(most, far_of(wind, bearing))
        for place in places:
            within = all(how_far(bearing, place) <= most * place[2] for bearing, most in sides)
            self.assertIs(within, can_be_sailed(wind, place), (wind, place))

    def test_by_hand(self):
        for wind in [((3, -2),), ((0, 0), (4, 0)), ((0, 0), (0, 4)), ((0, 0), (4, 2), (2, 1)), ((0, 0), (4, 0), (0, 4)),
                     lattice(3, 3)]:
            places = [(x, y, 2) for x in range(-3, 13) for y in range(-7, 13) if x % 2 or y % 2]
            self.check(wind, places + [(x, y, 1) for x in range(-2, 7) for y in range(-4, 7)])

    def test_winds_of_all_shapes(self):
        for number, wind in enumerate(all_winds()):
            self.check(wind, places_about(wind, number))
            self.check(wind[::-1] + wind, places_about(wind, number + 1)[:20])

    def test_a_little_off_each_side(self):
        for wind in all_winds():
            headings = least_headings(wind)
            places = []
            for number, heading in enumerate(headings):
                ahead = headings[number - 1]
                middle = [Fraction(heading[k] + ahead[k], 2) for k in (0, 1)]
                along = (heading[0] - ahead[0], heading[1] - ahead[1])
                for bottom in (2, 10 ** 5, 10 ** 300):
                    for way in (along, (along[1], -along[0])):
                        for off in (Fraction(1, bottom), Fraction(-1, bottom)):
                            places.append(place_at(middle[0] + way[0] * off, middle[1] + way[1] * off))
                            places.append(place_at(heading[0] + way[0] * off, heading[1] + way[1] * off))
            self.check(wind, places)

    def test_60_headings(self):
        for wind in (bow(60), bow(60, 10 ** 146), lattice(10, 6), random_wind(random.Random(33), 60, GREAT),
                     tuple((k, 2 * k) for k in range(60))):
            self.check(wind, places_about(wind))


class Told(unittest.TestCase):
    """[0.3]"""

    def test_tuples_all_the_way_and_the_same_each_time(self):
        for wind in all_winds()[::3]:
            other = wind[1:] + ((7, -7),)
            asked = [(farthest, (wind, (2, -5))), (least_headings, (wind,)), (parting_bearing, (wind, other)),
                     (sides_of, (wind,)), (turn_of, (wind[0], other[0])), (dot_of, (wind[0], other[0]))]
            check_told(self, asked)


if __name__ == "__main__":
    unittest.main()

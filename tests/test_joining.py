import itertools
import random
import unittest

from closehaul.bearings import farthest, least_headings
from closehaul.joining import drift_of, joined, joined_all, turned_back
from tests.helper import (GREAT, all_winds, bearings_of_all_sizes, bow, can_be_sailed, check_told, far_of,
                          great_winds, is_least_round, lattice, needed_headings, places_about, random_wind, shuffled,
                          small_winds)


def all_sums(one, other):
    return tuple((a + c, b + d) for a, b in one for c, d in other)


class Joined(unittest.TestCase):
    """[3.1]"""

    def check(self, one, other):
        told = joined(one, other)
        self.assertEqual(told, least_headings(all_sums(one, other)), (one, other))
        self.assertEqual(joined(other, one), told)
        for bearing in bearings_of_all_sizes()[::2]:
            self.assertEqual(farthest(told, bearing), far_of(one, bearing) + far_of(other, bearing))

    def test_by_hand(self):
        self.assertEqual(joined(((1, 2),), ((3, -5),)), ((4, -3),))
        self.assertEqual(joined(((0, 0), (2, 0)), ((0, 0), (3, 0))), ((0, 0), (5, 0)))
        self.assertEqual(joined(((0, 0), (2, 0)), ((0, 0), (0, 3))), ((0, 0), (2, 0), (2, 3), (0, 3)))
        self.assertEqual(joined(((0, 0), (0, 2)), ((0, 5), (0, -3))), ((0, -3), (0, 7)))
        self.assertEqual(joined(((0, 0), (1, 0), (0, 1)), ((0, 0), (-1, 0), (0, -1))),
                         ((-1, 0), (0, -1), (1, -1), (1, 0), (0, 1), (-1, 1)))
        self.assertEqual(joined(((0, 0), (1, 0), (0, 1)), ((0, 0), (2, 0), (0, 2))), ((0, 0), (3, 0), (0, 3)))
        self.assertEqual(joined(lattice(3, 3), ((0, 0), (0, 1))), ((0, 0), (2, 0), (2, 3), (0, 3)))

    def test_winds_of_all_shapes(self):
        winds = all_winds()
        for number, one in enumerate(winds):
            for other in winds[number % 3:number + 1:3]:
                self.check(one, other)

    def test_the_headings_that_are_needed(self):
        # Without the program's own least headings.
        for one, other in itertools.combinations([wind for wind in all_winds() if len(wind) < 7][::2], 2):
            told = joined(one, other)
            self.assertTrue(is_least_round(told))
            self.assertEqual(set(told), needed_headings(all_sums(one, other)), (one, other))

    def test_all_pairs_of_small_triangles(self):
        corners = list(itertools.combinations(lattice(3, 2), 3))
        for one in corners:
            for other in corners:
                self.assertEqual(joined(one, other), least_headings(all_sums(one, other)))

    def test_places_are_sums_of_places(self):
        for one, other in zip(small_winds(), small_winds()[1:]):
            told = joined(one, other)
            sums = all_sums(one, other)
            for place in places_about(told)[::3]:
                self.assertIs(can_be_sailed(told, place), can_be_sailed(sums, place))

    def test_300_headings(self):
        one = shuffled(bow(150, 10 ** 145), 1)
        other = shuffled(tuple((-7 * x, y) for x, y in bow(150, 10 ** 145)), 2)
        self.assertEqual(joined(one, other), least_headings(all_sums(one, other)))
        self.assertEqual(joined(one, one), least_headings(tuple((2 * x, 2 * y) for x, y in one)))
        wind = bow(300)
        self.assertEqual(joined(wind, ((5, -5),)), drift_of((wind, (5, -5))))


class JoinedAll(unittest.TestCase):
    """[3.1]"""

    def test_no_winds(self):
        self.assertEqual(joined_all(()), ((0, 0),))

    def test_one_wind(self):
        for wind in all_winds():
            self.assertEqual(joined_all((wind,)), least_headings(wind))

    def test_two_winds(self):
        for one, other in zip(all_winds(), all_winds()[1:]):
            self.assertEqual(joined_all((one, other)), joined(one, other))

    def test_any_order_and_grouping(self):
        source = random.Random(42)
        for winds in [source.sample(all_winds(), 4) for time in range(12)]:
            told = joined_all(tuple(winds))
            self.assertTrue(is_least_round(told))
            for order in list(itertools.permutations(winds))[::5]:
                self.assertEqual(joined_all(order), told)
            one, other, third, fourth = winds
            self.assertEqual(joined(joined(one, other), joined(third, fourth)), told)
            self.assertEqual(joined(one, joined(other, joined(third, fourth))), told)
            self.assertEqual(joined(joined_all((one, third, other)), fourth), told)
            self.assertEqual(joined_all((joined_all(()), joined(fourth, one), joined(third, other))), told)

    def test_the_farthest_is_the_sum(self):
        source = random.Random(43)
        for count in range(13):
            winds = tuple(source.sample(small_winds() + great_winds(), count))
            told = joined_all(winds)
            for bearing in bearings_of_all_sizes():
                self.assertEqual(farthest(told, bearing), sum(far_of(wind, bearing) for wind in winds))

    def test_twelve_winds_by_all_sums(self):
        source = random.Random(44)
        for most in (1, 3, 10 ** 9, GREAT):
            winds = tuple(random_wind(source, source.randint(1, 12), most) for time in range(12))
            total = ((0, 0),)
            for wind in winds:
                total = least_headings(all_sums(total, wind))
            self.assertEqual(joined_all(winds), total)

    def test_twelve_great_winds_of_many_headings(self):
        wind = bow(300, 10 ** 145)
        told = joined_all((wind,) * 12)
        self.assertEqual(told, least_headings(tuple((12 * x, 12 * y) for x, y in wind)))


class DriftAndTurnedBack(unittest.TestCase):
    """[3.2]"""

    def test_by_hand(self):
        self.assertEqual(drift_of((((0, 0), (4, 0), (0, 3), (1, 1)), (2, -5))), ((2, -5), (6, -5), (2, -2)))
        self.assertEqual(drift_of((((1, 1), (1, 1)), (0, 0))), ((1, 1),))
        self.assertEqual(turned_back(((0, 0), (4, 0), (0, 3), (1, 1))), ((-4, 0), (0, -3), (0, 0)))
        self.assertEqual(turned_back(((2, -5),)), ((-2, 5),))

    def test_winds_of_all_shapes(self):
        for wind in all_winds():
            for stream in ((0, 0), (3, -7), (-10 ** 9, 10 ** 9), (GREAT, -GREAT)):
                told = drift_of((wind, stream))
                self.assertTrue(is_least_round(told))
                self.assertEqual(set(told), {(x + stream[0], y + stream[1]) for x, y in needed_headings(wind)})
            back = turned_back(wind)
            self.assertTrue(is_least_round(back))
            self.assertEqual(set(back), {(-x, -y) for x, y in needed_headings(wind)})
            self.assertEqual(turned_back(back), least_headings(wind))


class Told(unittest.TestCase):
    """[0.3]"""

    def test_tuples_all_the_way_and_the_same_each_time(self):
        for wind in all_winds()[::3]:
            other = wind[1:] + ((7, -7),)
            asked = [(joined, (wind, other)), (joined_all, ((wind, other, wind),)), (turned_back, (wind,)),
                     (drift_of, ((wind, (3, -4)),))]
            check_told(self, asked)


if __name__ == "__main__":
    unittest.main()

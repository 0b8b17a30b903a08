import itertools
import random
import unittest
from fractions import Fraction

from closehaul.areas import area_cut, area_farthest, area_of, area_shared, area_spread, is_within
from tests.helper import (bearings_of_all_sizes, bow, check_told, how_far, is_area_of, is_fraction, is_in_area, pair,
                          parts_of, place_at, places_near, random_wind, shared_places, shuffled)

START = (0, 0, 1)
SQUARE = ((0, 0, 1), (4, 0, 1), (4, 4, 1), (0, 4, 1))
MIDDLE = ((2, 2, 1), (6, 2, 1), (6, 6, 1), (2, 6, 1))
LINE = ((0, 0, 1), (4, 2, 1))
SPOT = ((1, 1, 2),)
EAST = (1, 0)
NORTH = (0, 1)


def random_places(source, count, most, bottoms):
    return [place_at(Fraction(source.randint(-most, most), source.choice(bottoms)),
                     Fraction(source.randint(-most, most), source.choice(bottoms))) for place in range(count)]


def places_on_a_line(source, count, most, bottoms):
    step = random_places(source, 2, most, bottoms)
    east, north = parts_of(step[0])
    parts = [Fraction(source.randint(-most, most), source.choice(bottoms)) for place in range(count)]
    return [place_at(parts_of(step[1])[0] + part * east, parts_of(step[1])[1] + part * north) for part in parts]


def random_sets(seed, times, most_places=14):
    """Places of all shapes and sizes, the same ones each time."""
    source = random.Random(seed)
    found = []
    for time in range(times):
        most = source.choice((1, 2, 3, 9, 10 ** 9))
        bottoms = source.choice(((1,), (1, 2), (1, 2, 3, 5), (1, 7, 10 ** 9)))
        count = source.choice((0, 1, 2, 3, 4, 6, most_places))
        make = places_on_a_line if source.randrange(5) == 0 else random_places
        found.append(make(source, count, most, bottoms))
    return found


def great_sets():
    """Places of up to 600 figures, the same ones each time."""
    source = random.Random(101)
    found = []
    for count in (1, 2, 3, 5):
        for figures in (60, 600):
            most = 10 ** figures - 1
            found.append([(source.randint(-most, most), source.randint(-most, most), 10 ** (figures - 1) + 7)
                          for place in range(count)])
    return [[place_at(*parts_of(place)) for place in places] for places in found]


def bow_area(count, bottom):
    """An area of as many corners as asked for."""
    return area_of(tuple(place_at(Fraction(x, bottom), Fraction(y, bottom)) for x, y in bow(count)))


def random_areas(seed, times, most_places=14):
    return [area_of(tuple(places)) for places in random_sets(seed, times, most_places)]


def cut_places(area, bearing, most):
    """Of the cut area at least all corners, and no place outside of it."""
    far = {corner: how_far(bearing, parts_of(corner)) - most for corner in area}
    found = [corner for corner in area if far[corner] <= 0]
    for one, other in itertools.permutations(area, 2):
        if far[one] < 0 < far[other]:
            part = far[one] / (far[one] - far[other])
            (east, north), (east_on, north_on) = parts_of(one), parts_of(other)
            found.append(place_at(east + part * (east_on - east), north + part * (north_on - north)))
    return sorted(set(found))


class AreaOf(unittest.TestCase):
    """[8.1]"""

    def test_by_hand(self):
        for places, corners in [
            ((), ()), ((START,), (START,)), ((START,) * 5, (START,)), (((3, -1, 2),), ((3, -1, 2),)),
            (((1, 0, 1), START), (START, (1, 0, 1))), (((0, 1, 2), (0, 1, 3)), ((0, 1, 3), (0, 1, 2))),
            (((0, 1, 2), (0, -1, 2), (0, 1, 2)), ((0, -1, 2), (0, 1, 2))),
            (((1, 0, 3), (1, 5, 2)), ((1, 0, 3), (1, 5, 2))), (((-1, 0, 2), (-1, 0, 3)), ((-1, 0, 2), (-1, 0, 3))),
            ((START, (1, 1, 1), (1, 1, 2), (2, 2, 3)), (START, (1, 1, 1))),
            (((4, 4, 1), (0, 4, 1), (4, 0, 1), START, (2, 2, 1), (2, 0, 1), (0, 1, 2)), SQUARE),
            ((START, (0, 3, 1), (4, 0, 1)), (START, (4, 0, 1), (0, 3, 1))),
            (((1, 1, 2), (1, 1, 3), (1, 3, 6)), ((1, 3, 6), (1, 1, 3), (1, 1, 2))),
        ]:
            with self.subTest(places=places):
                self.assertEqual(area_of(places), corners)

    def test_places_of_all_kinds(self):
        for number, places in enumerate(random_sets(102, 250) + great_sets()):
            told = area_of(tuple(places))
            self.assertTrue(is_area_of(told, places), places)
            self.assertEqual(area_of(told), told)
            self.assertEqual(area_of(shuffled(places + places[::2], number)), told)

    def test_a_hair_apart(self):
        for figures in (20, 299):
            hair = Fraction(1, 10 ** figures)
            places = [place_at(Fraction(x) + a * hair, Fraction(y) + b * hair / 3)
                      for x, y in ((0, 0), (1, 0), (0, 1)) for a in (-1, 0, 1) for b in (-1, 0, 1)]
            self.assertTrue(is_area_of(area_of(shuffled(places, 3)), places))
            line = [place_at(part, part * 2 + (hair if part == Fraction(1, 3) else 0))
                    for part in (Fraction(0), Fraction(1, 3), Fraction(1, 2), Fraction(1))]
            self.assertEqual(area_of(tuple(line)), (line[0], line[3], line[1]))
            less = place_at(Fraction(1, 3), Fraction(2, 3) - hair)
            self.assertEqual(area_of((line[3], less, line[0], line[2])), (line[0], less, line[3]))

    def test_three_hundred_places(self):
        told = bow_area(300, 10 ** 599 + 1)
        self.assertEqual(len(told), 300)
        self.assertEqual(area_of(shuffled(told, 4)), told)
        source = random.Random(103)
        most = 10 ** 600 - 1
        places = [place_at(Fraction(source.randint(-most, most), source.randint(most // 9, most)),
                           Fraction(source.randint(-most, most), most)) for place in range(300)]
        told = area_of(tuple(places))
        self.assertEqual(area_of(told), told)
        self.assertTrue(set(told) <= set(places))
        for place in places[:20]:
            self.assertTrue(is_within(told, place))


class Within(unittest.TestCase):
    """[8.1]"""

    def test_by_hand(self):
        for area, inside, outside in [
            ((), (), (START, (1, 1, 1))),
            (SPOT, ((1, 1, 2),), (START, (1, 1, 1), (1, 2, 2), (-1, -1, 2), (1, 1, 3))),
            (LINE, (START, (4, 2, 1), (2, 1, 1), (2, 1, 3)),
             ((-2, -1, 1), (6, 3, 1), (2, 2, 1), (2, 0, 1), (-2, -1, 10 ** 9 + 1))),
            (SQUARE, SQUARE + ((2, 2, 1), (0, 1, 1), (1, 0, 7), (4, 2, 1), (3, 4, 1), (1, 1, 10 ** 50)),
             ((-1, 2, 10 ** 50), (5, 2, 1), (2, 5, 1), (1, -1, 3), (5, 5, 1), (17, 16, 4), (-1, -1, 9))),
        ]:
            for place in inside:
                self.assertIs(is_within(area, place), True, (area, place))
            for place in outside:
                self.assertIs(is_within(area, place), False, (area, place))

    def test_areas_of_all_kinds(self):
        source = random.Random(104)
        for area in random_areas(105, 100) + [area_of(tuple(places)) for places in great_sets()]:
            for place in places_near(area, source):
                self.assertIs(is_within(area, place), is_in_area(area, place), (area, place))

    def test_many_corners(self):
        area = bow_area(31, 3)
        self.assertEqual(len(area), 31)
        for x, y in bow(31):
            for bottom in (3, 4):
                place = place_at(Fraction(x, bottom), Fraction(y, bottom))
                self.assertIs(is_within(area, place), is_in_area(area, place))


class Farthest(unittest.TestCase):
    """[8.1]"""

    def test_by_hand(self):
        for area, bearing, far in [
            ((), EAST, None), (SPOT, EAST, (1, 2)), (SPOT, (-2, -1), (-3, 2)), (SQUARE, EAST, (4, 1)),
            (SQUARE, (-1, 0), (0, 1)), (SQUARE, (1, 1), (8, 1)), (LINE, (-1, 2), (0, 1)), (LINE, (-1, 3), (2, 1)),
            (((-1, 0, 3), (1, 1, 6)), (0, 3), (1, 2)), (((-1, 0, 2), (-1, 0, 3)), EAST, (-1, 3)),
        ]:
            with self.subTest(area=area, bearing=bearing):
                self.assertEqual(area_farthest(area, bearing), far)

    def test_areas_of_all_kinds(self):
        for area in random_areas(106, 60) + [area_of(tuple(places)) for places in great_sets()]:
            for bearing in bearings_of_all_sizes():
                told = area_farthest(area, bearing)
                if area:
                    self.assertTrue(is_fraction(told))
                    self.assertEqual(Fraction(*told), max(how_far(bearing, parts_of(corner)) for corner in area))
                else:
                    self.assertIsNone(told)


class Cut(unittest.TestCase):
    """[8.2]"""

    def test_by_hand(self):
        for area, bearing, most, left in [
            ((), EAST, (1, 1), ()), (SPOT, EAST, (1, 2), SPOT), (SPOT, EAST, (1, 3), ()), (SPOT, EAST, (9, 1), SPOT),
            (LINE, EAST, (2, 1), (START, (2, 1, 1))), (LINE, EAST, (0, 1), (START,)), (LINE, EAST, (-1, 9), ()),
            (LINE, (-1, 0), (-4, 1), ((4, 2, 1),)), (LINE, (-1, 0), (-3, 1), ((6, 3, 2), (4, 2, 1))),
            (LINE, (-1, 2), (0, 1), LINE), (LINE, (-1, 2), (-1, 5), ()), (LINE, (1, -2), (0, 1), LINE),
            # All, some, one side, one corner, nothing.
            (SQUARE, EAST, (4, 1), SQUARE), (SQUARE, EAST, (9, 2), SQUARE),
            (SQUARE, EAST, (7, 2), (START, (7, 0, 2), (7, 8, 2), (0, 4, 1))),
            (SQUARE, EAST, (0, 1), (START, (0, 4, 1))), (SQUARE, EAST, (-1, 10 ** 50), ()),
            (SQUARE, (1, 1), (0, 1), (START,)), (SQUARE, (-1, -1), (-8, 1), ((4, 4, 1),)),
            (SQUARE, (1, 1), (1, 3), (START, (1, 0, 3), (0, 1, 3))),
            (SQUARE, (1, 1), (4, 1), (START, (4, 0, 1), (0, 4, 1))),
            (SQUARE, (-1, 1), (0, 1), (START, (4, 0, 1), (4, 4, 1))), (SQUARE, (1, 1), (-1, 3), ()),
            (SQUARE, (-1, -1), (-7, 1), ((3, 4, 1), (4, 3, 1), (4, 4, 1))),
        ]:
            with self.subTest(area=area, bearing=bearing, most=most):
                self.assertEqual(area_cut(area, bearing, most), left)

    def test_areas_of_all_kinds(self):
        source = random.Random(107)
        for area in random_areas(108, 200):
            bearing = source.choice((EAST, NORTH, (-1, 0), (2, -3), (-5, -1), (10 ** 59, 7)))
            mosts = [Fraction(source.randint(-9, 9), source.choice((1, 2, 7)))]
            if area:
                far = sorted({how_far(bearing, parts_of(corner)) for corner in area})
                mosts.extend([far[0], far[-1], source.choice(far), (far[0] + far[-1]) / 2])
                mosts.extend([far[0] - Fraction(1, 10 ** 40), far[-1] - Fraction(1, 3)])
            for most in mosts:
                told = area_cut(area, bearing, pair(most))
                self.assertTrue(is_area_of(told, cut_places(area, bearing, most)), (area, bearing, most))
                for place in places_near(area, source)[::7]:
                    left = is_in_area(area, place) and how_far(bearing, parts_of(place)) <= most
                    self.assertIs(is_in_area(told, place), left)

    def test_great_numbers(self):
        most = 10 ** 600 - 1
        for places in great_sets():
            area = area_of(tuple(places))
            for bearing in ((most, 1 - most), (-1, most)):
                far = sorted(how_far(bearing, parts_of(corner)) for corner in area)
                for bound in (far[0], (far[0] + far[-1]) / 2, far[-1]):
                    told = area_cut(area, bearing, pair(bound))
                    self.assertTrue(is_area_of(told, cut_places(area, bearing, bound)))

    def test_twenty_corners(self):
        area = bow_area(20, 7)
        for bearing, most in (((1, 0), (5, 7)), ((3, -1), (1, 1)), ((-7, -2), (-20, 3)), ((0, -1), (-1, 50))):
            told = area_cut(area, bearing, most)
            self.assertTrue(is_area_of(told, cut_places(area, bearing, Fraction(*most))))


class Shared(unittest.TestCase):
    """[8.2]"""

    def check(self, one, other):
        told = area_shared(one, other)
        self.assertEqual(area_shared(other, one), told, (one, other))
        self.assertTrue(is_area_of(told, shared_places(one, other)), (one, other))
        return told

    def test_by_hand(self):
        for one, other, both in [
            ((), (), ()), ((), SQUARE, ()), ((), SPOT, ()), (SPOT, SPOT, SPOT), (SPOT, ((1, 1, 3),), ()),
            (SPOT, SQUARE, SPOT), (LINE, SPOT, ()), (LINE, ((2, 1, 3),), ((2, 1, 3),)), (LINE, ((6, 3, 1),), ()),
            (LINE, LINE, LINE), (LINE, ((2, 1, 1), (6, 3, 1)), ((2, 1, 1), (4, 2, 1))),
            (LINE, ((4, 2, 1), (6, 3, 1)), ((4, 2, 1),)), (LINE, ((6, 3, 1), (8, 4, 1)), ()),
            (LINE, ((0, 1, 1), (4, 3, 1)), ()), (LINE, ((1, 1, 1), (2, 0, 1)), ((4, 2, 3),)),
            (LINE, ((5, 2, 1), (6, 0, 1)), ()), (LINE, SQUARE, LINE), (LINE, MIDDLE, ((4, 2, 1),)),
            (((-2, 2, 1), (9, 2, 1)), SQUARE, ((0, 2, 1), (4, 2, 1))), (((0, 5, 1), (5, 0, 1)), SQUARE,
                                                                        ((1, 4, 1), (4, 1, 1))),
            # In all, a part, a side, a corner, nothing.
            (SQUARE, SQUARE, SQUARE), (SQUARE, ((1, 1, 1), (2, 1, 1), (1, 2, 1)), ((1, 1, 1), (2, 1, 1), (1, 2, 1))),
            (SQUARE, MIDDLE, ((2, 2, 1), (4, 2, 1), (4, 4, 1), (2, 4, 1))),
            (SQUARE, ((4, 1, 1), (6, 1, 1), (6, 9, 1), (4, 9, 1)), ((4, 1, 1), (4, 4, 1))),
            (SQUARE, ((4, 4, 1), (6, 4, 1), (6, 6, 1)), ((4, 4, 1),)),
            (SQUARE, ((3, 5, 1), (5, 3, 1), (6, 6, 1)), ((4, 4, 1),)),
            (SQUARE, ((9, 10, 2), (10, 9, 2), (6, 6, 1)), ()), (SQUARE, ((5, 0, 1), (6, 0, 1), (6, 1, 1)), ()),
        ]:
            with self.subTest(one=one, other=other):
                self.assertEqual(self.check(one, other), both)

    def test_areas_of_all_kinds(self):
        areas = random_areas(109, 120, 9)
        source = random.Random(110)
        sizes = {}
        for time in range(500):
            told = self.check(source.choice(areas), source.choice(areas))
            sizes[len(told)] = sizes.get(len(told), 0) + 1
        self.assertTrue(all(sizes.get(size, 0) > 10 for size in (0, 1, 2, 3, 4)), sizes)

    def test_fourteen_corners_of_many_figures(self):
        bottom = 10 ** 599 + 7
        one = area_of(tuple(place_at(Fraction(x * bottom + 3, bottom * 5), Fraction(y * bottom - x, bottom * 5))
                            for x, y in bow(14)))
        other = area_of(tuple(place_at(Fraction(x * bottom - y, bottom * 4 + 1), Fraction((y - 9) * bottom, bottom - 1))
                              for x, y in bow(14)))
        self.assertEqual((len(one), len(other)), (14, 14))
        self.assertGreater(len(self.check(one, other)), 4)
        for places in great_sets():
            self.check(area_of(tuple(places)), one)


class Spread(unittest.TestCase):
    """[8.2]"""

    def check(self, area, wind):
        told = area_spread(area, wind)
        sums = {place_at(parts_of(corner)[0] + x, parts_of(corner)[1] + y) for corner in area for x, y in wind}
        self.assertTrue(is_area_of(told, sorted(sums)), (area, wind))
        return told

    def test_by_hand(self):
        for area, wind, spread in [
            ((), ((1, 2),), ()), ((), ((1, 2), (0, 0), (3, 1)), ()), (SPOT, ((1, 2),), ((3, 5, 2),)),
            (SPOT, ((0, 0), (1, 0)), ((1, 1, 2), (3, 1, 2))), (LINE, ((1, 1), (1, 1)), ((1, 1, 1), (5, 3, 1))),
            (LINE, ((0, 0), (2, 1)), (START, (6, 3, 1))), (LINE, ((0, 0), (-2, -1)), ((-2, -1, 1), (4, 2, 1))),
            (LINE, ((0, 0), (1, 0)), (START, (1, 0, 1), (5, 2, 1), (4, 2, 1))),
            (SQUARE, ((0, 0), (1, 0), (1, 1), (0, 1)), (START, (5, 0, 1), (5, 5, 1), (0, 5, 1))),
            (SQUARE, ((0, 0), (0, 2)), (START, (4, 0, 1), (4, 6, 1), (0, 6, 1))), (SQUARE, ((0, 0),), SQUARE),
            (SQUARE, ((0, 1), (1, 0)), ((0, 1, 1), (1, 0, 1), (5, 0, 1), (5, 4, 1), (4, 5, 1), (0, 5, 1))),
        ]:
            with self.subTest(area=area, wind=wind):
                self.assertEqual(self.check(area, wind), spread)

    def test_areas_of_all_kinds(self):
        source = random.Random(111)
        for area in random_areas(112, 200, 8):
            for count in (1, 2, source.choice((3, 5))):
                self.check(area, random_wind(source, count, source.choice((1, 2, 9, 10 ** 9))))
            along = source.choice(((1, 2), (-3, 1), (0, 1)))
            self.check(area, tuple((part * along[0], part * along[1]) for part in (0, 3, -1, 2)))

    def test_many_corners_and_headings(self):
        area = bow_area(14, 3)
        told = self.check(area, shuffled(bow(13), 2))
        self.assertGreater(len(told), 13)
        for places in great_sets():
            self.check(area_of(tuple(places)), bow(7))

    def test_turned_back_it_holds_all_from_which_one_comes_in(self):
        source = random.Random(113)
        for area in random_areas(114, 30, 6):
            wind = random_wind(source, 4, 3)
            drawn = area_spread(area, tuple((-x, -y) for x, y in wind))
            for place in places_near(drawn, source)[::5]:
                east, north = parts_of(place)
                spots = area_of(tuple(place_at(east + x, north + y) for x, y in wind))
                self.assertIs(is_within(drawn, place), area_shared(area, spots) != ())


class Told(unittest.TestCase):
    """[0.3]"""

    def test_the_same_each_time(self):
        for places in random_sets(115, 60):
            area = area_of(tuple(places))
            check_told(self, [(area_of, (tuple(places),)), (is_within, (area, (1, 2, 3))),
                              (area_farthest, (area, (2, 1))), (area_cut, (area, (2, 1), (1, 3))),
                              (area_shared, (area, SQUARE)), (area_spread, (area, ((0, 0), (1, 3))))])


if __name__ == "__main__":
    unittest.main()

import random
import unittest
from fractions import Fraction

from closehaul.areas import area_of
from closehaul.sure import barring_watch, sure_areas, sure_shares
from tests.helper import (bow, check_told, how_far, is_area_of, is_bearing, is_in_area, is_number, led_to,
                          nested_tuples, parts_of, place_at, places_near, random_wind, right_shares, shared_places)

START = (0, 0, 1)
SQUARE = ((0, 0, 1), (4, 0, 1), (4, 4, 1), (0, 4, 1))
LINE = ((0, 0, 1), (4, 2, 1))
SPOT = ((1, 1, 2),)
ANY_WAY = (((1, 0), (0, 1), (-1, 0), (0, -1)), (0, 0))
STILL = (((0, 0),), (0, 0))
EASTWARD = (((0, 0), (2, 0)), (0, 0))
CARRIED = (((0, 0),), (3, 0))


def moved_on(watch, place):
    """All places at which one may be when one heading alone was taken."""
    east, north = parts_of(place)
    wind, stream = watch
    return [place_at(east + x + stream[0], north + y + stream[1]) for x, y in wind]


def drawn_area(area, watch):
    """The area from which the watch leads into another one, by all differences."""
    wind, stream = watch
    spots = [place_at(parts_of(corner)[0] - x - stream[0], parts_of(corner)[1] - y - stream[1])
             for corner in area for x, y in wind]
    return area_of(tuple(spots))


def sure_places(forecast, area):
    """Of the sure area ahead at least all corners, and no place outside of it."""
    left = drawn_area(area, forecast[0])
    for watch in forecast[1:]:
        left = area_of(tuple(shared_places(left, drawn_area(area, watch))))
    return list(left)


def random_watch(source, most, count=None):
    return (random_wind(source, count or source.choice((1, 2, 3, 4)), most), random_wind(source, 1, most // 2)[0])


def random_forecasts(source, most, count, watches):
    return tuple(tuple(random_watch(source, most) for watch in range(source.randint(1, watches)))
                 for forecast in range(count))


def random_harbour(source, most):
    count = source.choice((0, 1, 2, 3, 6, 6))
    return area_of(tuple(place_at(Fraction(source.randint(-most, most), source.choice((1, 2, 3))),
                                  Fraction(source.randint(-most, most))) for corner in range(count)))


class Sure(unittest.TestCase):
    """[9.1] to [9.3]"""

    def check_areas(self, forecasts, harbour):
        areas = sure_areas(forecasts, harbour)
        self.assertTrue(nested_tuples(areas))
        self.assertEqual(len(areas), len(forecasts) + 1)
        self.assertEqual(areas[-1], harbour)
        for number, forecast in enumerate(forecasts):
            self.assertTrue(is_area_of(areas[number], sure_places(forecast, areas[number + 1])),
                            (forecast, areas[number + 1]))
        return areas

    def check_shares(self, watch, area, place):
        shares = sure_shares(watch, area, place)
        if shares is None:
            return False
        self.assertTrue(right_shares(watch[0], shares), (watch, area, place, shares))
        east, north = led_to(watch[0], shares)
        end = place_at(parts_of(place)[0] + east + watch[1][0], parts_of(place)[1] + north + watch[1][1])
        self.assertTrue(is_in_area(area, end), (watch, area, place, shares))
        return True

    def check_place(self, forecast, area, place):
        """The watches that lead in, by their shares, and the bar of the first one that doesn't."""
        leads = [self.check_shares(watch, area, place) for watch in forecast]
        told = barring_watch(forecast, area, place)
        asked = (forecast, area, place, told)
        if all(leads):
            self.assertIsNone(told, asked)
            return True
        self.assertTrue(nested_tuples(told) and len(told) == 2 and is_number(told[0]) and is_bearing(told[1]), asked)
        self.assertEqual(told[0], leads.index(False), asked)
        nearest = min(how_far(told[1], parts_of(spot)) for spot in moved_on(forecast[told[0]], place))
        for corner in area:
            self.assertGreater(nearest, how_far(told[1], parts_of(corner)), asked)
        return False

    def test_no_forecasts(self):
        for harbour in ((), SPOT, LINE, SQUARE):
            self.assertEqual(sure_areas((), harbour), (harbour,))

    def test_areas_by_hand(self):
        for forecasts, harbour, areas in [
            (((STILL,),), SQUARE, (SQUARE, SQUARE)), (((CARRIED,),), SPOT, (((-5, 1, 2),), SPOT)),
            (((EASTWARD,),), SPOT, (((-3, 1, 2), (1, 1, 2)), SPOT)), (((EASTWARD,),), (), ((), ())),
            (((EASTWARD, CARRIED),), SPOT, ((), SPOT)),
            (((EASTWARD, STILL),), SPOT, (SPOT, SPOT)), (((STILL, EASTWARD), (EASTWARD,)), SPOT, (
                ((-3, 1, 2), (1, 1, 2)), ((-3, 1, 2), (1, 1, 2)), SPOT)),
            (((EASTWARD,), (STILL, CARRIED)), SPOT, ((), (), SPOT)),
            (((STILL, CARRIED),), SQUARE, (((0, 0, 1), (1, 0, 1), (1, 4, 1), (0, 4, 1)), SQUARE)),
            (((ANY_WAY,),), ((0, 0, 1),), (((-1, 0, 1), (0, -1, 1), (1, 0, 1), (0, 1, 1)), (START,))),
            (((STILL, (((0, 0),), (4, 0))),), SQUARE, (((0, 0, 1), (0, 4, 1)), SQUARE)),
            (((STILL, (((0, 0),), (4, 4))),), SQUARE, ((START,), SQUARE)),
        ]:
            with self.subTest(forecasts=forecasts, harbour=harbour):
                self.assertEqual(self.check_areas(forecasts, harbour), areas)

    def test_shares_by_hand(self):
        self.assertEqual(sure_shares(STILL, SPOT, (1, 1, 2)), ((0, (1, 1)),))
        self.assertIsNone(sure_shares(STILL, SPOT, (1, 1, 3)))
        self.assertIsNone(sure_shares(STILL, (), START))
        self.assertEqual(sure_shares(EASTWARD, SPOT, (0, 1, 2)), ((0, (3, 4)), (1, (1, 4))))
        self.assertEqual(sure_shares(CARRIED, ((3, 0, 1),), START), ((0, (1, 1)),))
        self.assertIsNone(sure_shares(CARRIED, SPOT, START))

    def test_bars_by_hand(self):
        self.assertEqual(barring_watch((STILL, EASTWARD), SQUARE, (1, 1, 1)), None)
        self.assertEqual(barring_watch((STILL, CARRIED, CARRIED), SQUARE, (4, 1, 1))[0], 1)
        self.assertEqual(barring_watch((CARRIED, STILL), SQUARE, (-1, 1, 1))[0], 1)
        self.assertEqual(barring_watch((CARRIED, STILL), SQUARE, (5, 1, 1))[0], 0)
        for forecast in ((STILL,), (CARRIED, STILL)):
            number, bearing = barring_watch(forecast, (), (7, 1, 3))
            self.assertEqual(number, 0)
            self.assertTrue(is_bearing(bearing))
        for watch, area, place in [
            (STILL, SPOT, START), (STILL, LINE, (6, 3, 1)), (STILL, LINE, (-2, -1, 1)), (STILL, LINE, (1, 1, 1)),
            (EASTWARD, ((3, 0, 1),), START), (EASTWARD, ((-1, 0, 1),), START),
            (EASTWARD, ((1, 1, 1), (2, 1, 1)), START), (EASTWARD, ((3, 0, 1), (5, 0, 1)), START),
            (EASTWARD, ((3, -1, 1), (3, 1, 1)), START),
        ]:
            with self.subTest(watch=watch, area=area, place=place):
                self.assertIs(self.check_place((watch,), area, place), False)

    def test_forecasts_of_all_kinds(self):
        source = random.Random(141)
        seen = {True: 0, False: 0}
        for time in range(60):
            most = source.choice((1, 3, 8))
            forecasts = random_forecasts(source, most, source.randint(1, 4), 4)
            areas = self.check_areas(forecasts, random_harbour(source, source.choice((2, 9, 30))))
            for number, forecast in enumerate(forecasts):
                for place in places_near(areas[number], source)[::source.choice((3, 5))]:
                    inside = self.check_place(forecast, areas[number + 1], place)
                    self.assertIs(inside, is_in_area(areas[number], place))
                    seen[inside] += 1
        self.assertGreater(min(seen.values()), 300)

    def test_eight_forecasts_of_two_watches(self):
        source = random.Random(142)
        for time in range(6):
            forecasts = random_forecasts(source, source.choice((2, 9)), 8, 2)
            areas = self.check_areas(forecasts, random_harbour(source, 40))
            for number, forecast in enumerate(forecasts):
                for place in places_near(areas[number], source)[:24:6]:
                    inside = self.check_place(forecast, areas[number + 1], place)
                    self.assertIs(inside, is_in_area(areas[number], place))

    def test_a_harbour_that_is_sure_is_come_to(self):
        source = random.Random(143)
        for time in range(40):
            forecasts = random_forecasts(source, 4, 4, 2)
            harbour = random_harbour(source, 30)
            areas = sure_areas(forecasts, harbour)
            for place in areas[0][:3]:
                for number, forecast in enumerate(forecasts):
                    watch = source.choice(forecast)
                    east, north = led_to(watch[0], sure_shares(watch, areas[number + 1], place))
                    place = place_at(parts_of(place)[0] + east + watch[1][0], parts_of(place)[1] + north + watch[1][1])
                self.assertTrue(is_in_area(harbour, place))

    def test_many_headings_and_great_numbers(self):
        source = random.Random(144)
        most = 10 ** 9
        harbour = area_of(tuple(place_at(Fraction(x * most, 7), Fraction(y * most, 3)) for x, y in bow(6)))
        self.assertEqual(len(harbour), 6)
        for count, watches in ((4, 4), (8, 2)):
            forecasts = tuple(tuple(random_watch(source, most, 13) for watch in range(watches))
                              for forecast in range(count))
            areas = sure_areas(forecasts, harbour)
            self.assertEqual(areas[-1], harbour)
            for number, forecast in enumerate(forecasts):
                area = areas[number]
                self.assertNotEqual(area, ())
                self.assertEqual(area_of(area), area)
                hair = Fraction(1, 10 ** 200)
                for corner in area[::5]:
                    self.assertTrue(self.check_place(forecast, areas[number + 1], corner))
                    for off in ((hair, 0), (-hair, 0), (0, hair), (0, -hair)):
                        place = place_at(parts_of(corner)[0] + off[0], parts_of(corner)[1] + off[1])
                        self.assertIs(self.check_place(forecast, areas[number + 1], place), is_in_area(area, place))

    def test_places_of_many_figures(self):
        most = 10 ** 600 - 1
        forecast = (EASTWARD, ANY_WAY)
        for harbour in (((most - 1, 1, most),), (START, (most, 3, most - 1))):
            areas = self.check_areas((forecast, forecast), harbour)
            for corner in areas[0] + ((1, 1, most), (-most, most - 1, 2)):
                self.assertIs(self.check_place(forecast, areas[1], corner), is_in_area(areas[0], corner))


class Told(unittest.TestCase):
    """[0.3]"""

    def test_the_same_each_time(self):
        source = random.Random(145)
        for time in range(20):
            forecasts = random_forecasts(source, 3, 3, 2)
            harbour = random_harbour(source, 9)
            place = (source.randint(-9, 9), 1, 2)
            check_told(self, [(sure_areas, (forecasts, harbour)), (sure_shares, (forecasts[0][0], harbour, place)),
                              (barring_watch, (forecasts[0], harbour, place))])


if __name__ == "__main__":
    unittest.main()

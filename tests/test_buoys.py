import itertools
import random
import unittest
from fractions import Fraction

from closehaul.buoys import buoy_table, passing
from tests.helper import (all_sums, can_be_sailed, check_told, nested_tuples, parts_of, place_at, random_course,
                          random_row, right_shares, short_led_to)

START = (0, 0, 1)
EAST = (((0, 0), (1, 0)), (0, 0))
NORTH = (((0, 0), (0, 1)), (0, 0))
STILL = (((0, 0),), (0, 0))
CARRIED = (((0, 0),), (1, 0))
UP = (((0, 1),), (0, 0))


class Passings:
    """All rows of numbers that are a passing, gone through one by one."""

    def __init__(self, watches, buoys):
        self.watches = watches
        self.buoys = buoys
        self.known = {}

    def leads(self, begin, end, leg):
        if (begin, end, leg) not in self.known:
            self.known[begin, end, leg] = can_be_sailed(all_sums(self.watches[begin:end]), leg)
        return self.known[begin, end, leg]

    def is_one(self, numbers):
        begin = 0
        start = (0, 0)
        for end, buoy in zip(numbers, self.buoys):
            place = parts_of(buoy)
            if not self.leads(begin, end, place_at(place[0] - start[0], place[1] - start[1])):
                return False
            begin = end
            start = place
        return True

    def of_first(self, count):
        rows = itertools.combinations_with_replacement(range(len(self.watches) + 1), count)
        return [numbers for numbers in rows if self.is_one(numbers)]


def random_case(source, watch_count, buoy_count):
    """A row of watches, and buoys along a course, or a little off it."""
    watches = random_row(source, source.choice((1, 1, 2)), watch_count)
    course = random_course(source, watches, 1)
    numbers = sorted(source.randint(0, watch_count) for buoy in range(buoy_count))
    buoys = [place_at(*short_led_to(watches[:number], course[:number])) for number in numbers]
    if buoys and source.randrange(3) == 0:
        buoys[source.randrange(len(buoys))] = (source.randint(-2, 2), source.randint(-2, 2), 1)
    return watches, tuple(buoys)


class Buoys(unittest.TestCase):
    """[7.3], [7.4]"""

    def check(self, watches, buoys):
        told = passing(watches, buoys)
        table = buoy_table(watches, buoys)
        asked = (watches, buoys)
        self.assertTrue(nested_tuples(told) and nested_tuples(table), asked)
        self.assertEqual([len(row) for row in table], [len(watches) + 1] * len(buoys), asked)
        rows = Passings(watches, buoys)
        for count, row in enumerate(table, 1):
            ends = {numbers[-1] for numbers in rows.of_first(count)}
            self.assertEqual(list(row), [number in ends for number in range(len(watches) + 1)], asked)
        every = rows.of_first(len(buoys))
        if not every:
            self.assertIsNone(told, asked)
            return None
        self.check_course(watches, buoys, told)
        self.assertEqual(told[0], min(every), asked)
        return told[0]

    def check_course(self, watches, buoys, told):
        numbers, course = told
        self.assertEqual(len(numbers), len(buoys))
        self.assertEqual(len(course), numbers[-1] if numbers else 0)
        for (wind, stream), shares in zip(watches, course):
            self.assertTrue(right_shares(wind, shares), (watches, buoys, told))
        for number, buoy in zip(numbers, buoys):
            self.assertEqual(short_led_to(watches, course[:number]), parts_of(buoy), (watches, buoys, told))

    def test_no_buoys(self):
        for watches in ((), (EAST,), (CARRIED, UP)):
            self.assertEqual(passing(watches, ()), ((), ()))
            self.assertEqual(buoy_table(watches, ()), ())

    def test_no_watches(self):
        self.assertEqual(passing((), (START,)), ((0,), ()))
        self.assertEqual(passing((), (START, START)), ((0, 0), ()))
        self.assertEqual(buoy_table((), (START, START)), ((True,), (True,)))
        self.assertIsNone(passing((), ((1, 0, 1),)))
        self.assertEqual(buoy_table((), (START, (1, 0, 1), START)), ((True,), (False,), (False,)))

    def test_by_hand(self):
        for watches, buoys, numbers in [
            # One at the start; it is passed at once, though one could wait there.
            ((EAST,), (START,), (0,)), ((CARRIED,), (START,), (0,)),
            # Several at one place are passed at the same number.
            ((EAST,), ((1, 0, 1), (1, 0, 1), (1, 0, 1)), (1, 1, 1)), ((CARRIED,), ((1, 0, 1), (1, 0, 1)), (1, 1)),
            ((EAST,), (START, START, (1, 0, 2), (1, 0, 2)), (0, 0, 1, 1)),
            # Legs of no watches, of one, of several.
            ((EAST, NORTH), ((1, 0, 1), (1, 1, 1)), (1, 2)), ((EAST, NORTH), ((1, 1, 1),), (2,)),
            ((EAST, NORTH), ((1, 1, 2), (1, 1, 1)), None),
            ((EAST, STILL, NORTH), (START, (1, 1, 1), (1, 1, 1)), (0, 3, 3)),
            ((EAST, EAST, EAST), ((1, 0, 2), (1, 0, 1), (3, 0, 1)), None),
            ((EAST, EAST, EAST), ((1, 0, 2), (1, 0, 1), (3, 0, 2)), (1, 2, 3)),
            ((EAST, EAST, EAST), ((3, 0, 1),), (3,)), ((EAST, EAST, EAST), ((5, 0, 2), (3, 0, 1)), None),
            # Passed in order, not the other way round.
            ((EAST, EAST), ((1, 0, 1), (1, 0, 2)), None), ((EAST, NORTH), ((0, 1, 1), (1, 1, 1)), None),
            # The first one can be had at 1, but then the next one can't be passed.
            ((EAST, (((1, 0),), (0, 0)), UP), ((1, 0, 1), (1, 1, 1)), (2, 3)),
            ((EAST, (((1, 0),), (0, 0)), UP), ((1, 0, 1),), (1,)),
            # The start can be had at 0, 1 and 2, or left and had again; it is passed at 0.
            ((STILL, STILL, CARRIED), (START, (1, 0, 1)), (0, 3)),
            ((UP, (((0, -1),), (0, 0)), CARRIED), (START,), (0,)),
            # A stream carries off from the buoy ahead.
            ((CARRIED, CARRIED), ((1, 0, 1), (1, 0, 1), (2, 0, 1)), (1, 1, 2)), ((CARRIED, EAST), ((1, 0, 2),), None),
        ]:
            with self.subTest(watches=watches, buoys=buoys):
                self.assertEqual(self.check(watches, buoys), numbers)

    def test_table_by_hand(self):
        watches = (EAST, (((1, 0),), (0, 0)), UP)
        self.assertEqual(buoy_table(watches, ((1, 0, 1), (1, 1, 1))),
                         ((False, True, True, False), (False, False, False, True)))
        self.assertEqual(buoy_table((STILL, EAST), (START, START)), ((True, True, True), (True, True, True)))
        self.assertEqual(buoy_table((STILL, EAST), (START, (1, 0, 1), START)),
                         ((True, True, True), (False, False, True), (False, False, False)))

    def test_rows_of_all_kinds(self):
        source = random.Random(131)
        none = 0
        for time in range(250):
            watches, buoys = random_case(source, source.randint(0, 4), source.randint(0, 4))
            none += self.check(watches, buoys) is None
        self.assertTrue(20 < none < 200)

    def test_six_watches_and_eight_buoys(self):
        source = random.Random(132)
        east = tuple(EAST for watch in range(6))
        for buoys in (tuple((k, 0, 2) for k in range(1, 9)), ((1, 0, 2),) * 8, (START,) * 7 + ((6, 0, 1),)):
            places = tuple(place_at(*parts_of(buoy)) for buoy in buoys)
            self.check(east, places)
        for time in range(4):
            watches, buoys = random_case(source, 6, 8)
            told = passing(watches, buoys)
            if told is not None:
                self.check_course(watches, buoys, told)
            self.assertEqual(any(buoy_table(watches, buoys)[-1]), told is not None)

    def test_great_numbers(self):
        source = random.Random(133)
        for time in range(20):
            watches = random_row(source, 10 ** 9, 4)
            course = random_course(source, watches, 10 ** 10)
            buoys = tuple(place_at(*short_led_to(watches[:number], course[:number])) for number in (0, 1, 3, 4))
            self.check_course(watches, buoys, passing(watches, buoys))
            east, north = parts_of(buoys[2])
            off = buoys[:2] + (place_at(east + Fraction(1, 10 ** 9), north),)
            told = passing(watches, off)
            if told is not None:
                self.check_course(watches, off, told)


class Told(unittest.TestCase):
    """[0.3]"""

    def test_the_same_each_time(self):
        source = random.Random(134)
        for time in range(30):
            watches, buoys = random_case(source, 3, 3)
            check_told(self, [(buoy_table, (watches, buoys)), (passing, (watches, buoys))])


if __name__ == "__main__":
    unittest.main()

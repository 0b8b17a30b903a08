import random
import unittest
from fractions import Fraction

from closehaul.courses import reach_of
from closehaul.meeting import chase_of, meeting
from closehaul.soonexam import soonest_stands
from closehaul.soonest import soonest
from tests.helper import (bow, check_told, is_fraction, is_least_round, is_place, is_short, needed_headings,
                          nested_tuples, parts_of, place_at, random_course, random_row, random_wind, right_bars,
                          short_led_to, summed)

START = (0, 0, 1)
EASTWARD = ((((0, 0), (2, 0)), (0, 0)),)
WESTWARD = ((((0, 0), (-2, 0)), (0, 0)),)
ANY_WAY = ((((1, 0), (0, 1), (-1, 0), (0, -1)), (0, 0)),)
STILL = ((((0, 0),), (0, 0)),)


def differences(watch, other):
    return [(a - c, b - d) for a, b in watch[0] for c, d in other[0]]


class Chase(unittest.TestCase):
    """[7.1]"""

    def test_by_hand(self):
        self.assertEqual(chase_of((), ()), ())
        self.assertEqual(chase_of(EASTWARD, WESTWARD), ((((0, 0), (4, 0)), (0, 0)),))
        self.assertEqual(chase_of(EASTWARD, EASTWARD), ((((-2, 0), (2, 0)), (0, 0)),))
        one = ((((1, 1),), (5, -2)), (((0, 0), (3, 0)), (0, 7)))
        other = ((((0, 4), (0, 4)), (2, 2)), (((0, 0), (0, 1)), (1, -1)))
        self.assertEqual(chase_of(one, other),
                         ((((1, -3),), (3, -4)), (((0, -1), (3, -1), (3, 0), (0, 0)), (-1, 8))))
        self.assertEqual(chase_of(other, one),
                         ((((-1, 3),), (-3, 4)), (((-3, 0), (0, 0), (0, 1), (-3, 1)), (1, -8))))

    def test_rows_of_all_kinds(self):
        source = random.Random(121)
        for time in range(150):
            count = source.randint(0, 5)
            most = source.choice((1, 4, 10 ** 9))
            one = random_row(source, most, count)
            other = random_row(source, most, count)
            chase = chase_of(one, other)
            self.assertEqual(len(chase), count)
            for watch, ahead, behind in zip(chase, one, other):
                self.assertTrue(nested_tuples(watch) and len(watch) == 2)
                self.assertTrue(is_least_round(watch[0]))
                self.assertEqual(set(watch[0]), needed_headings(differences(ahead, behind)))
                self.assertEqual(watch[1], (ahead[1][0] - behind[1][0], ahead[1][1] - behind[1][1]))

    def test_many_headings(self):
        most = 10 ** 9
        one = ((bow(12, 10 ** 7), (most, -most)),) * 12
        other = ((tuple((-2 * x, -3 * y) for x, y in bow(12, 10 ** 6)), (-most, most)),) * 12
        chase = chase_of(one, other)
        self.assertTrue(is_least_round(chase[0][0]))
        self.assertEqual(set(chase[0][0]), needed_headings(differences(one[0], other[0])))
        self.assertEqual(chase[0][1], (2 * most, -2 * most))
        self.assertEqual(chase, chase[:1] * 12)


class Meeting(unittest.TestCase):
    """[7.2]"""

    def check(self, watches, others, place):
        answer = meeting(watches, others, place)
        asked = (watches, others, place, answer)
        self.assertTrue(nested_tuples(answer), asked)
        chase = chase_of(watches, others)
        if answer[0] == "never":
            self.assertEqual(len(answer), 2)
            self.assertTrue(right_bars(chase, place, answer[1], None), asked)
            self.assertIs(soonest_stands(chase, place, answer), True)
            return None
        self.assertEqual((answer[0], len(answer)), ("at", 6))
        moment, course, other, where, bars = answer[1:]
        self.assertTrue(is_fraction(moment) and is_place(where), asked)
        self.assertTrue(right_bars(chase, place, bars, Fraction(*moment)), asked)
        self.assertEqual(soonest(chase, place)[1], moment)
        for row, short in ((watches, course), (others, other)):
            self.assertTrue(is_short(row, short), asked)
            self.assertEqual(sum(map(summed, short)), Fraction(*moment), asked)
        self.assertEqual(short_led_to(watches, course), parts_of(where), asked)
        end = short_led_to(others, other)
        self.assertEqual((end[0] + parts_of(place)[0], end[1] + parts_of(place)[1]), parts_of(where), asked)
        return moment, where

    def test_at_once(self):
        for one, other in (((), ()), (EASTWARD, WESTWARD), (STILL * 3, ANY_WAY * 3)):
            self.assertEqual(meeting(one, other, START), ("at", (0, 1), (), (), START, ()))

    def test_no_watches(self):
        for place in ((1, 0, 1), (-1, 3, 7)):
            self.assertEqual(meeting((), (), place), ("never", ()))

    def test_by_hand(self):
        for one, other, place, met in [
            # At the end of a watch, within one, never.
            (EASTWARD, WESTWARD, (4, 0, 1), ((1, 1), (2, 0, 1))), (EASTWARD, WESTWARD, (1, 0, 1), ((1, 4), (1, 0, 2))),
            (EASTWARD, WESTWARD, (5, 0, 1), None), (EASTWARD, WESTWARD, (-1, 0, 9), None),
            (EASTWARD, WESTWARD, (1, 1, 9), None), (EASTWARD * 2, WESTWARD * 2, (5, 0, 1), ((5, 4), (5, 0, 2))),
            (EASTWARD * 3, WESTWARD * 3, (8, 0, 1), ((2, 1), (4, 0, 1))),
            (EASTWARD, STILL, (1, 0, 1), ((1, 2), (1, 0, 1))), (STILL, WESTWARD, (1, 0, 1), ((1, 2), START)),
            (STILL, STILL, (1, 0, 1), None), (STILL, EASTWARD, (1, 0, 1), None),
            (STILL * 2, STILL + WESTWARD, (2, 0, 1), ((2, 1), START)),
            # The other one's stream alone brings it in, or carries it off.
            (STILL, ((((0, 0),), (-3, 0)),), (1, 0, 1), ((1, 3), START)),
            (EASTWARD, ((((0, 0),), (3, 0)),), (1, 0, 1), None),
            (EASTWARD, ((((0, 0),), (1, 0)),), (1, 0, 1), ((1, 1), (2, 0, 1))),
        ]:
            with self.subTest(one=one, other=other, place=place):
                self.assertEqual(self.check(one, other, place), met)

    def test_boats_that_pass_one_another(self):
        # Both must go on, so they are at one place at one moment alone.
        one = ((((2, 0),), (0, 0)),)
        other = ((((-2, 0),), (0, 0)),)
        self.assertEqual(self.check(one, other, (2, 0, 1)), ((1, 2), (1, 0, 1)))
        self.assertEqual(self.check(one * 2, other * 2, (6, 0, 1)), ((3, 2), (3, 0, 1)))
        self.assertIsNone(self.check(one * 2, other * 2, (9, 0, 1)))

    def test_places_of_all_kinds(self):
        source = random.Random(122)
        never = 0
        for time in range(800):
            count = source.randint(1, 4)
            most = source.choice((1, 2, 4))
            one = random_row(source, most, count)
            other = random_row(source, most, count)
            place = place_at(Fraction(source.randint(-5 * most, 5 * most), source.choice((1, 2, 3))),
                             Fraction(source.randint(-5 * most, 5 * most)))
            never += self.check(one, other, place) is None
        self.assertTrue(100 < never < 700)

    def test_boats_that_can_meet(self):
        source = random.Random(123)
        for time in range(300):
            count = source.randint(1, 5)
            one = random_row(source, source.choice((1, 3, 10 ** 9)), count)
            other = random_row(source, source.choice((1, 3, 10 ** 9)), count)
            ends = []
            for row in (one, other):
                ends.append(short_led_to(row, random_course(source, row, 3)))
            place = place_at(ends[0][0] - ends[1][0], ends[0][1] - ends[1][1])
            met = self.check(one, other, place)
            self.assertIsNotNone(met)
            # Told courses may be gone on from.
            self.check(one, other, met[1])

    def test_great_numbers_and_many_headings(self):
        source = random.Random(124)
        most = 10 ** 60 - 1
        one = tuple((random_wind(source, 12, 10 ** 9), (10 ** 9, k)) for k in range(5))
        other = tuple((bow(12, 10 ** 7), (k, -10 ** 9)) for k in range(5))
        for row, behind in ((one, other), (other, one)):
            for place in ((most, -most, 1), (most, most - 1, 10 ** 51), (3, 1 - most, most)):
                self.check(row, behind, place)
        for heading in reach_of(chase_of(one, other)):
            self.assertIsNotNone(self.check(one, other, heading + (1,)))


class Told(unittest.TestCase):
    """[0.3]"""

    def test_the_same_each_time(self):
        source = random.Random(125)
        for time in range(40):
            one = random_row(source, 3, 3)
            other = random_row(source, 3, 3)
            check_told(self, [(chase_of, (one, other)), (meeting, (one, other, (3, 1, 2))),
                              (meeting, (one, other, (0, 1, 9)))])


if __name__ == "__main__":
    unittest.main()

import random
import unittest
from fractions import Fraction

from closehaul.errors import NoCourse, NoShares
from closehaul.soonest import short_end, short_moment, soonest
from tests.helper import (bow, check_told, had_at, is_fraction, is_place, is_short, nested_tuples, pair, parts_of,
                          place_at, random_course, random_row, right_bars, short_led_to, summed)

START = (0, 0, 1)
SQUARE = ((0, 0), (4, 0), (4, 4), (0, 4))
WATCHES = ((SQUARE, (1, -1)), (((2, 0), (0, 2)), (0, 3)), (((5, 5),), (-5, 0)))
COURSE = (((1, (1, 2)), (3, (1, 2))), ((0, (1, 4)), (1, (1, 3))))

# What is no short course for WATCHES: each is COURSE, or a like one, with one part spoilt.
NO_SHORT_COURSES = (
    # Too many shares.
    COURSE[:1] * 3 + (((0, (1, 1)),),), (((0, (1, 1)),), ((0, (1, 1)),), ((0, (1, 1)),), ((0, (1, 2)),)),
    (((0, (1, 1)),), ((0, (1, 1)),), ((0, (1, 1)),), ()),
    # Shares that are not 1 together ahead of the last.
    (((1, (1, 2)),), COURSE[1]), (((1, (1, 2)), (3, (3, 4))), COURSE[1]), ((), COURSE[1]),
    (COURSE[0], COURSE[1], ((0, (1, 1)),)), (((1, (1, 4)), (3, (1, 2))), ((0, (1, 1)),)),
    # Nothing or more than 1 in the last.
    ((),), (COURSE[0], ()), (COURSE[0], ((0, (1, 2)), (1, (2, 3)))), (((0, (2, 1)),),), (COURSE[0], ((1, (11, 10)),)),
    (COURSE[0], ((0, (1, 1)), (1, (1, 10 ** 60)))),
    # A heading that is not there, or does not rise.
    (((4, (1, 2)),),), (((-1, (1, 2)),),), (((4, (1, 1)),), COURSE[1]), (COURSE[0], ((2, (1, 2)),)),
    (COURSE[0], ((-1, (1, 2)),)), (COURSE[0], COURSE[1][::-1]), (COURSE[0][::-1], COURSE[1]),
    (COURSE[0], ((0, (1, 4)), (0, (1, 4)))), (((1, (1, 2)), (1, (1, 2))), COURSE[1]),
    # A share that is no fraction above nought.
    (((1, (2, 4)),),), (COURSE[0], ((0, (0, 1)), (1, (1, 2)))), (COURSE[0], ((0, (-1, 4)), (1, (1, 2)))),
    (COURSE[0], ((0, (-1, -4)),)), (COURSE[0], ((0, (1, -4)), (1, (1, 2)))), (COURSE[0], ((0, (1, 0)),)),
    (COURSE[0], ((0, (0, 0)),)), (((1, (2, 4)), (3, (1, 2))), COURSE[1]), (COURSE[0], ((1, (3, 3)),)),
    (((0, (1, 1)), (1, (0, 1))), COURSE[1]), (COURSE[0], ((0, (0, 1)),)),
)


def random_short_course(source, watches, most):
    """A short course that ends in the midst of a watch, or at its end."""
    count = source.randint(0, len(watches))
    course = list(random_course(source, watches[:count], most))
    if course and source.randrange(4):
        part = Fraction(source.randint(1, most), most)
        course[-1] = tuple((heading, pair(Fraction(*share) * part)) for heading, share in course[-1])
    return tuple(course)


class ShortCourses(unittest.TestCase):
    """[6.1]"""

    def test_the_empty_one(self):
        for watches in ((), WATCHES, WATCHES[:1]):
            self.assertEqual(short_end(watches, ()), START)
        self.assertEqual(short_moment(()), (0, 1))

    def test_by_hand(self):
        for course, moment, end in [
            (COURSE, (19, 12), (42, 41, 12)),
            (COURSE[:1], (1, 1), (3, 1, 1)),
            ((((2, (1, 3)),),), (1, 3), (5, 3, 3)),
            ((((0, (1, 4)),),), (1, 4), (1, -1, 4)),
            ((((0, (1, 4)), (1, (1, 4))),), (1, 2), (3, -1, 2)),
            (COURSE[:1] + (((0, (1, 1)),),), (2, 1), (5, 4, 1)),
            (COURSE[:1] + (((0, (1, 1)),), ((0, (1, 2)),)), (5, 2), (10, 13, 2)),
            (COURSE[:1] + (((0, (1, 1)),), ((0, (1, 1)),)), (3, 1), (5, 9, 1)),
        ]:
            with self.subTest(course=course):
                self.assertEqual(short_moment(course), moment)
                self.assertEqual(short_end(WATCHES, course), end)

    def test_rows_of_all_kinds(self):
        source = random.Random(71)
        for time in range(300):
            watches = random_row(source, source.choice((2, 9, 10 ** 9)), source.choice((1, 2, 3, 5, 12)))
            course = random_short_course(source, watches, source.choice((1, 3, 100, 10 ** 59)))
            end = short_end(watches, course)
            self.assertTrue(is_place(end))
            self.assertEqual(parts_of(end), short_led_to(watches, course))
            moment = short_moment(course)
            self.assertTrue(is_fraction(moment))
            self.assertEqual(Fraction(*moment), sum(map(summed, course)))

    def test_the_moment_of_any_shares(self):
        self.assertEqual(short_moment(((), ((7, (2, 3)), (9, (5, 2))), ())), (19, 6))
        self.assertEqual(short_moment((((0, (1, 2)),), ((0, (1, 2)),))), (1, 1))

    def test_what_is_none_is_refused(self):
        self.assertEqual(short_end(WATCHES, COURSE)[2], 12)
        for course in NO_SHORT_COURSES:
            with self.subTest(course=course):
                with self.assertRaises(NoCourse) as refused:
                    short_end(WATCHES, course)
                self.assertNotIsInstance(refused.exception, NoShares)
                self.assertIs(type(refused.exception), NoCourse)

    def test_no_watches_have_the_empty_one_alone(self):
        for course in (((),), (((0, (1, 1)),),), COURSE):
            with self.assertRaises(NoCourse):
                short_end((), course)


class Soonest(unittest.TestCase):
    """[6.2] to [6.4]"""

    def check(self, watches, place):
        answer = soonest(watches, place)
        self.assertTrue(nested_tuples(answer))
        asked = (watches, place, answer)
        if answer[0] == "never":
            self.assertEqual(len(answer), 2)
            self.assertTrue(right_bars(watches, place, answer[1], None), asked)
            return None
        self.assertEqual((answer[0], len(answer)), ("at", 4))
        moment = Fraction(*answer[1])
        self.assertTrue(is_fraction(answer[1]), asked)
        self.assertTrue(is_short(watches, answer[2]), asked)
        self.assertEqual(sum(map(summed, answer[2])), moment, asked)
        self.assertEqual(short_led_to(watches, answer[2]), parts_of(place), asked)
        self.assertTrue(right_bars(watches, place, answer[3], moment), asked)
        return answer[1]

    def test_the_start(self):
        for watches in ((), WATCHES, ((((2, 1),), (0, 0)),)):
            self.assertEqual(soonest(watches, START), ("at", (0, 1), (), ()))

    def test_no_watches(self):
        for place in ((1, 0, 1), (0, -1, 10 ** 59), (5, 7, 3)):
            self.assertEqual(soonest((), place), ("never", ()))

    def test_by_hand(self):
        line = ((((0, 0), (4, 0)), (0, 0)),)
        alike = ((((3, 1), (3, 1), (3, 1)), (-1, 0)),)
        square = ((SQUARE, (0, 0)),)
        for watches, place, moment in [
            (line, (4, 0, 1), (1, 1)), (line, (1, 0, 1), (1, 4)), (line, (5, 0, 1), None), (line, (1, 1, 10), None),
            (line, (-1, 0, 9), None), (line * 2, (5, 0, 1), (5, 4)), (line * 3, (8, 0, 1), (2, 1)),
            (line * 2, (9, 0, 1), None),
            (alike, (2, 1, 1), (1, 1)), (alike, (2, 1, 3), (1, 3)), (alike, (4, 2, 1), None),
            (alike, (-2, -1, 1), None),
            (alike * 3, (4, 2, 1), (2, 1)), (alike * 3, (5, 2, 1), None), (alike * 12, (22, 11, 1), (11, 1)),
            (square, (4, 4, 1), (1, 1)), (square, (2, 1, 1), (1, 2)), (square, (4, 0, 1), (1, 1)),
            (square * 2, (5, 3, 1), (5, 4)), (square * 2, (8, 9, 1), None),
            (line + square, (4, 0, 1), (1, 1)), (line + square, (5, 1, 1), (5, 4)), (line + square, (1, 1, 1), (5, 4)),
            (line + square, (0, 4, 1), (2, 1)),
        ]:
            with self.subTest(watches=watches, place=place):
                self.assertEqual(self.check(watches, place), moment)

    def test_streams_that_carry_off(self):
        carried = ((((0, 0), (1, 0)), (-2, 0)),)
        for watches, place, moment in [
            (carried, (1, 0, 1), None), (carried, (-1, 0, 1), (1, 2)), (carried, (-3, 0, 2), (3, 4)),
            (carried, (-2, 0, 1), (1, 1)), (carried, (-5, 0, 2), None), (carried * 2, (-5, 0, 2), (5, 4)),
            (carried, (-1, 1, 1), None),
            (((((0, 0), (0, 1)), (3, 0)),), (3, 1, 1), (1, 1)), (((((0, 0), (0, 1)), (3, 0)),), (3, 1, 2), (1, 2)),
            (((((0, 0), (0, 1)), (3, 0)),), (3, 4, 3), None), (((((1, 2),), (-1, -2)),), (1, 2, 1), None),
        ]:
            with self.subTest(watches=watches, place=place):
                self.assertEqual(self.check(watches, place), moment)

    def test_a_place_that_is_left_and_had_again(self):
        there_and_back = ((((2, 0),), (0, 0)), (((0, 0),), (-2, 0)))
        self.assertEqual(self.check(there_and_back, (1, 0, 1)), (1, 2))
        self.assertFalse(had_at(there_and_back, (1, 0, 1), Fraction(1)))
        self.assertTrue(had_at(there_and_back, (1, 0, 1), Fraction(3, 2)))
        self.assertEqual(self.check(there_and_back, (2, 0, 1)), (1, 1))
        around = ((((4, 0),), (0, 0)), (((0, 0), (0, 2)), (-2, 0)))
        self.assertEqual(self.check(around, (3, 1, 1)), (3, 2))
        self.assertEqual(self.check(around, (3, 0, 1)), (3, 4))
        self.assertEqual(self.check(around, (3, 2, 1)), None)

    def test_rows_of_all_kinds(self):
        source = random.Random(72)
        told = []
        for time in range(2500):
            most = source.choice((1, 2, 3, 6))
            watches = random_row(source, most, source.randint(0, 4))
            parts = [Fraction(source.randint(-3 * most, 3 * most), source.choice((1, 1, 2, 3))) for k in (0, 1)]
            told.append(self.check(watches, place_at(*parts)))
        self.assertTrue(100 < len([moment for moment in told if moment is None]) < 2400)

    def test_ends_of_short_courses(self):
        source = random.Random(73)
        for time in range(700):
            watches = random_row(source, source.choice((1, 3, 9, 10 ** 9)), source.choice((1, 2, 3, 4, 6, 12)))
            course = random_short_course(source, watches, source.choice((1, 3, 20)))
            place = place_at(*short_led_to(watches, course))
            moment = self.check(watches, place)
            self.assertIsNotNone(moment)
            self.assertLessEqual(Fraction(*moment), sum(map(summed, course)))

    def test_had_at_no_moment_ahead(self):
        source = random.Random(74)
        for time in range(150):
            watches = random_row(source, source.choice((1, 3)), source.choice((1, 2, 3)))
            course = random_short_course(source, watches, 4)
            place = place_at(*short_led_to(watches, course))
            if source.randrange(3) == 0:
                place = place_at(parts_of(place)[0] + Fraction(1, 7), parts_of(place)[1])
            told = self.check(watches, place)
            moment = Fraction(len(watches) + 1) if told is None else Fraction(*told)
            if told is not None:
                self.assertTrue(had_at(watches, place, moment))
            hair = Fraction(1, 10 ** 6)
            for eighth in range(8 * len(watches) + 1):
                for sooner in (Fraction(eighth, 8), moment - Fraction(eighth, 8) - hair):
                    if 0 <= sooner < min(moment, len(watches) + 1) and sooner <= len(watches):
                        self.assertFalse(had_at(watches, place, sooner), (watches, place, sooner))

    def test_great_numbers(self):
        source = random.Random(75)
        most = 10 ** 60 - 1
        for time in range(40):
            watches = random_row(source, 10 ** 9, source.choice((1, 2, 5, 12)))
            course = random_short_course(source, watches, 10 ** source.choice((3, 20, 45)))
            self.assertIsNotNone(self.check(watches, place_at(*short_led_to(watches, course))))
            bottom = source.randint(most // 2, most)
            self.check(watches, place_at(Fraction(source.randint(-most, most), bottom),
                                         Fraction(source.randint(-most, most), bottom)))
            self.check(watches, (most, -most, 1))

    def test_twelve_watches_of_many_headings(self):
        bows = tuple((bow(24, k + 1), (-k * 20, k)) for k in range(12))
        reach = [sum(max(bow(24, k + 1))[0] - k * 20 for k in range(12)),
                 sum(max(bow(24, k + 1))[1] + k for k in range(12))]
        self.assertEqual(self.check(bows, (reach[0], reach[1], 1)), (12, 1))
        for place in ((reach[0] + 1, reach[1], 1), (reach[0], 2 * reach[1] - 1, 2), (-5, 100, 3), (1, 1, 10 ** 30)):
            self.check(bows, place)


class Told(unittest.TestCase):
    """[0.3]"""

    def test_the_same_each_time(self):
        source = random.Random(76)
        for time in range(60):
            watches = random_row(source, 4, source.randint(0, 4))
            course = random_short_course(source, watches, 5)
            place = place_at(*short_led_to(watches, course))
            check_told(self, [(short_moment, (course,)), (short_end, (watches, course)), (soonest, (watches, place)),
                              (soonest, (watches, (7, -5, 3)))])


if __name__ == "__main__":
    unittest.main()

import random
import unittest
from fractions import Fraction

from closehaul.bearings import farthest, least_headings, sides_of
from closehaul.courses import course_end, course_stands, course_to, farthest_by, reach_of
from closehaul.errors import NoCourse
from closehaul.joining import drift_of, joined_all
from tests.helper import (GREAT, all_sums, all_winds, bearings_of_all_sizes, bow, can_be_sailed, check_told, far_of,
                          how_far, is_bearing, is_least_round, is_number, is_place, led_to, needed_headings,
                          nested_tuples, parts_of, place_at, places_about, places_off_sides, random_course,
                          random_wind, right_shares, shuffled, small_winds)

START = (0, 0, 1)
ROWS_BY_HAND = (
    (),
    ((((0, 0), (4, 0), (0, 4)), (1, -1)),),
    ((((2, 3),), (0, 0)), (((2, 3), (2, 3)), (-2, -3))),
    ((((0, 0), (2, 0)), (0, 1)), (((0, 0), (0, 2)), (1, 0))),
    ((((0, 0), (2, 1)), (0, 1)), (((0, 0), (4, 2), (-2, -1)), (1, 0)), (((6, 3), (6, 3)), (0, 0))),
    ((((0, 0), (1, 0), (0, 1)), (0, 0)), (((0, 0), (-1, 0), (0, -1)), (0, 0))),
)
WATCHES = ((((0, 0), (4, 0), (4, 4), (0, 4)), (1, -1)), (((2, 0), (0, 2)), (0, 3)))
COURSE = (((1, (1, 2)), (3, (1, 2))), ((0, (1, 4)), (1, (3, 4))))

# What is no course for WATCHES: each is COURSE with one part spoilt.
NO_COURSES = (
    (), COURSE[:1], COURSE[1:], COURSE + (((0, (1, 1)),),), COURSE + ((),), COURSE[::-1], (COURSE[0], ()),
    ((), COURSE[1]), ((), ()),
    (((4, (1, 1)),), COURSE[1]), (((-1, (1, 1)),), COURSE[1]), (COURSE[0], ((2, (1, 1)),)),
    (COURSE[0], ((0, (1, 2)), (0, (1, 2)))), (COURSE[0][::-1], COURSE[1]), (COURSE[0], COURSE[1][::-1]),
    (COURSE[0], ((0, (1, 4)),)), (((1, (1, 2)),), COURSE[1]), (COURSE[0], ((0, (1, 4)), (1, (1, 4)))),
    (COURSE[0], ((0, (3, 4)), (1, (3, 4)))), (((1, (1, 2)), (3, (2, 1))), COURSE[1]),
    (((1, (1, 4)), (3, (1, 4))), ((0, (3, 4)), (1, (3, 4)))),
    (COURSE[0], ((0, (0, 1)), (1, (1, 1)))), (COURSE[0], ((0, (-1, 4)), (1, (5, 4)))),
    (((1, (2, 4)), (3, (1, 2))), COURSE[1]), (COURSE[0], ((0, (2, 8)), (1, (3, 4)))),
    (((1, (-1, -2)), (3, (1, 2))), COURSE[1]), (COURSE[0], ((0, (1, 0)), (1, (3, 4)))), (COURSE[0], ((0, (0, 0)),)),
    (COURSE[0], ((0, (1, -4)), (1, (5, 4)))),
)


def random_rows():
    """Rows of watches of up to 12, small and great, the same ones each time."""
    source = random.Random(61)
    rows = []
    for count in (1, 1, 2, 2, 3, 3, 4, 6, 12):
        winds = source.sample(small_winds(), count)
        rows.append(tuple((wind, (source.randint(-9, 9), source.randint(-9, 9))) for wind in winds))
        winds = source.sample(all_winds(), count)
        rows.append(tuple((wind, (source.randint(-GREAT, GREAT), source.randint(-GREAT, GREAT))) for wind in winds))
    return rows


def all_rows():
    return list(ROWS_BY_HAND) + [WATCHES] + random_rows()


def course_led_to(watches, course):
    ends = [led_to(wind, shares) for (wind, stream), shares in zip(watches, course)]
    ends.extend(stream for wind, stream in watches)
    return tuple(sum((end[k] for end in ends), Fraction(0)) for k in (0, 1))


class CourseEnd(unittest.TestCase):
    """[5.1]"""

    def test_by_hand(self):
        self.assertEqual(course_end((), ()), START)
        self.assertEqual(course_end(WATCHES, COURSE), (7, 11, 2))
        self.assertEqual(course_end(WATCHES[:1], (((2, (1, 1)),),)), (5, 3, 1))
        self.assertEqual(course_end(((((2, 3),), (-2, -3)),), (((0, (1, 1)),),)), START)
        self.assertEqual(course_end(((((1, 0), (0, 1)), (0, 5)),), (((0, (1, 3)), (1, (2, 3))),)), (1, 17, 3))

    def test_rows_of_all_kinds(self):
        source = random.Random(62)
        for watches in all_rows():
            for most in (1, 3, 10 ** 9, 10 ** 590):
                course = random_course(source, watches, most)
                end = course_end(watches, course)
                self.assertTrue(is_place(end))
                self.assertEqual(parts_of(end), course_led_to(watches, course))

    def test_no_course_is_refused(self):
        for course in NO_COURSES:
            with self.subTest(course=course):
                with self.assertRaises(NoCourse):
                    course_end(WATCHES, course)

    def test_a_course_for_no_watches_is_refused_but_the_empty_one(self):
        for course in (((),), (((0, (1, 1)),),), COURSE):
            with self.assertRaises(NoCourse):
                course_end((), course)


class Reach(unittest.TestCase):
    """[5.2]"""

    def test_by_hand(self):
        self.assertEqual(reach_of(()), ((0, 0),))
        self.assertEqual(reach_of(ROWS_BY_HAND[1]), ((1, -1), (5, -1), (1, 3)))
        self.assertEqual(reach_of(ROWS_BY_HAND[2]), ((2, 3),))
        self.assertEqual(reach_of(ROWS_BY_HAND[3]), ((1, 1), (3, 1), (3, 3), (1, 3)))
        self.assertEqual(reach_of(ROWS_BY_HAND[4]), ((5, 3), (13, 7)))
        self.assertEqual(reach_of(ROWS_BY_HAND[5]), ((-1, 0), (0, -1), (1, -1), (1, 0), (0, 1), (-1, 1)))

    def test_rows_of_all_kinds(self):
        for watches in all_rows():
            told = reach_of(watches)
            self.assertTrue(is_least_round(told))
            self.assertEqual(told, joined_all(tuple(drift_of(watch) for watch in watches)))
            if len(watches) < 4:
                self.assertEqual(told, least_headings(tuple(all_sums(watches))))

    def test_the_headings_that_are_needed(self):
        # Without the program's own least headings.
        for watches in all_rows():
            sums = all_sums(watches) if len(watches) < 4 else ()
            if 0 < len(sums) <= 60:
                self.assertEqual(set(reach_of(watches)), needed_headings(sums))

    def test_any_order(self):
        for watches in all_rows():
            told = reach_of(watches)
            for seed in range(4):
                self.assertEqual(reach_of(shuffled(watches, seed)), told)
            self.assertEqual(reach_of(watches[::-1]), told)

    def test_every_course_ends_within(self):
        source = random.Random(63)
        for watches in all_rows():
            told = reach_of(watches)
            for most in (1, 4, 1000):
                end = course_end(watches, random_course(source, watches, most))
                self.assertTrue(can_be_sailed(told, end))


class FarthestBy(unittest.TestCase):
    """[5.2]"""

    def test_by_hand(self):
        self.assertEqual(farthest_by((), (3, -4)), 0)
        self.assertEqual(farthest_by(WATCHES, (1, 0)), 7)
        self.assertEqual(farthest_by(WATCHES, (0, 1)), 8)
        self.assertEqual(farthest_by(WATCHES, (-1, 0)), -1)
        self.assertEqual(farthest_by(WATCHES, (0, -2)), -4)
        self.assertEqual(farthest_by(WATCHES, (1, 1)), 13)

    def test_the_farthest_of_the_reach(self):
        for watches in all_rows():
            reach = reach_of(watches)
            for bearing in bearings_of_all_sizes():
                told = farthest_by(watches, bearing)
                self.assertTrue(is_number(told))
                self.assertEqual(told, farthest(reach, bearing))
                sums = [far_of(wind, bearing) + how_far(bearing, stream) for wind, stream in watches]
                self.assertEqual(told, sum(sums))


class CourseTo(unittest.TestCase):
    """[5.3], and [5.4] of what is told."""

    def check(self, watches, reach, place):
        answer = course_to(watches, place)
        self.assertTrue(nested_tuples(answer))
        self.assertEqual(len(answer), 2)
        if can_be_sailed(reach, place):
            self.assertEqual(answer[0], "course", (watches, place))
            self.assertEqual(len(answer[1]), len(watches))
            for (wind, stream), shares in zip(watches, answer[1]):
                self.assertTrue(right_shares(wind, shares), (watches, place))
            self.assertEqual(course_led_to(watches, answer[1]), parts_of(place))
            self.assertEqual(course_end(watches, answer[1]), place)
        else:
            self.assertEqual(answer[0], "barred", (watches, place))
            self.assertTrue(is_bearing(answer[1]))
            self.assertGreater(how_far(answer[1], place), far_of(reach, answer[1]) * place[2])
        self.assertIs(course_stands(watches, place, answer), True, (watches, place))

    def test_no_watches(self):
        self.assertEqual(course_to((), START), ("course", ()))
        for place in ((1, 0, 1), (0, -1, 10 ** 599), (5, 7, 3)):
            self.check((), ((0, 0),), place)

    def test_by_hand(self):
        self.assertEqual(course_to(ROWS_BY_HAND[2], (2, 3, 1))[0], "course")
        self.assertEqual(course_to(ROWS_BY_HAND[2], (2, 4, 1))[0], "barred")
        self.assertEqual(course_to(ROWS_BY_HAND[3], (3, 3, 1)), ("course", (((1, (1, 1)),), ((1, (1, 1)),))))
        self.assertEqual(course_to(ROWS_BY_HAND[3], (3, 2, 2))[1], (((0, (3, 4)), (1, (1, 4))), ((0, (1, 1)),)))
        self.assertEqual(course_to(ROWS_BY_HAND[3], (7, 2, 2))[0], "barred")

    def test_rows_of_all_kinds(self):
        for number, watches in enumerate(all_rows()):
            reach = reach_of(watches)
            for place in places_about(reach, number)[::2]:
                self.check(watches, reach, place)

    def test_a_hair_off_the_bound(self):
        for watches in all_rows():
            reach = reach_of(watches)
            for place in places_off_sides(reach, sides_of(reach)[:12]):
                self.check(watches, reach, place)

    def test_ends_of_courses(self):
        source = random.Random(64)
        for watches in all_rows():
            reach = reach_of(watches)
            for most in (1, 2, 9):
                self.check(watches, reach, course_end(watches, random_course(source, watches, most)))

    def test_winds_of_300_headings(self):
        source = random.Random(65)
        watches = ((shuffled(bow(300, 10 ** 145), 1), (GREAT, 3)), (random_wind(source, 300, GREAT), (0, -GREAT)))
        reach = reach_of(watches)
        for place in places_about(reach)[::3]:
            self.check(watches, reach, place)


class CourseStands(unittest.TestCase):
    """[5.4]"""

    def test_courses_of_any_shares(self):
        source = random.Random(66)
        for watches in all_rows():
            for most in (1, 5, 10 ** 9, 10 ** 300):
                course = random_course(source, watches, most)
                place = place_at(*course_led_to(watches, course))
                self.assertIs(course_stands(watches, place, ("course", course)), True)
                for east, north in ((1, 0), (0, -1)):
                    elsewhere = place_at(parts_of(place)[0] + Fraction(east, 10 ** 20), parts_of(place)[1] + north)
                    self.assertIs(course_stands(watches, elsewhere, ("course", course)), False)

    def test_spoilt_courses(self):
        self.assertIs(course_stands(WATCHES, (7, 11, 2), ("course", COURSE)), True)
        for course in NO_COURSES:
            places = [(7, 11, 2), START]
            numbers = [number for shares in course for number, share in shares]
            bottoms = [share[1] for shares in course for number, share in shares]
            if len(course) == 2 and set(numbers) <= {0, 1, -1} and 0 not in bottoms:
                places.append(place_at(*course_led_to(WATCHES, course)))
            for place in places:
                with self.subTest(course=course, place=place):
                    self.assertIs(course_stands(WATCHES, place, ("course", course)), False)

    def test_told_courses_spoilt(self):
        for watches in all_rows():
            place = reach_of(watches)[-1] + (1,)
            text, course = course_to(watches, place)
            self.assertIs(course_stands(watches, place, (text, course)), True)
            spoilt = [course + (((0, (1, 1)),),), course + ((),)]
            for number, shares in enumerate(course):
                spoilt.append(course[:number] + course[number + 1:])
                beyond = len(watches[number][0])
                less = tuple((heading, (share[0], share[1] + share[0])) for heading, share in shares)
                for other in ((), less, ((-1, (1, 1)),), ((beyond, (1, 1)),), shares + shares, shares[1:]):
                    spoilt.append(course[:number] + (other,) + course[number + 1:])
            for other in spoilt:
                self.assertIs(course_stands(watches, place, ("course", other)), False, (watches, other))
                with self.assertRaises(NoCourse):
                    course_end(watches, other)

    def test_no_watches(self):
        self.assertIs(course_stands((), START, ("course", ())), True)
        self.assertIs(course_stands((), (1, 0, 1), ("course", ())), False)
        self.assertIs(course_stands((), START, ("course", ((),))), False)
        self.assertIs(course_stands((), (1, 0, 1), ("barred", (1, 0))), True)
        self.assertIs(course_stands((), (1, 0, 1), ("barred", (0, 1))), False)
        self.assertIs(course_stands((), (1, 0, 1), ("barred", (-1, 0))), False)
        self.assertIs(course_stands((), (1, 0, 1), ("barred", (0, 0))), False)
        self.assertIs(course_stands((), START, ("barred", (1, 0))), False)

    def test_bearings(self):
        for bearing, place, stands in [
            ((1, 0), (15, 0, 2), True), ((1, 0), (7, 0, 1), False), ((1, 0), (13, 0, 2), False),
            ((1, 0), (8, 0, 1), True),
            ((-1, 0), (0, 5, 1), True), ((-1, 0), (1, 5, 1), False), ((1, 0), (0, 5, 1), False),
            ((0, 1), (3, 9, 1), True), ((0, 1), (3, 8, 1), False), ((0, -2), (3, 1, 1), True),
            ((0, -2), (3, 2, 1), False),
            ((1, 1), (7, 7, 1), True), ((1, 1), (7, 6, 1), False), ((10 ** 599, 1), (8, 0, 1), True),
            ((0, 0), (8, 0, 1), False), ((0, 0), (3, 3, 1), False), ((0, 0), START, False),
        ]:
            with self.subTest(bearing=bearing, place=place):
                self.assertIs(course_stands(WATCHES, place, ("barred", bearing)), stands)

    def test_no_bearing_bars_what_can_be_reached(self):
        for watches in all_rows():
            reach = reach_of(watches)
            for place in places_about(reach)[::9]:
                if can_be_sailed(reach, place):
                    for bearing in ((1, 0), (-3, 4), (0, 0)) + tuple(side[0] for side in sides_of(reach)[:12]):
                        self.assertIs(course_stands(watches, place, ("barred", bearing)), False)

    def test_other_texts(self):
        for text in ("", "sailed", "Barred", "barred ", "Course", "courses", "at", "never", " course"):
            self.assertIs(course_stands(WATCHES, (8, 0, 1), (text, (1, 0))), False)
            self.assertIs(course_stands(WATCHES, (3, 3, 1), (text, (1, 0))), False)


class Told(unittest.TestCase):
    """[0.3]"""

    def test_the_same_each_time(self):
        source = random.Random(67)
        for watches in all_rows():
            course = random_course(source, watches, 5)
            place = (5, 7, 3)
            answer = course_to(watches, place)
            asked = [(reach_of, (watches,)), (farthest_by, (watches, (2, -3))), (course_end, (watches, course)),
                     (course_to, (watches, place)), (course_to, (watches, course_end(watches, course))),
                     (course_stands, (watches, place, answer))]
            check_told(self, asked)


if __name__ == "__main__":
    unittest.main()

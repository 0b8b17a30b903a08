import random
import unittest
from fractions import Fraction
from math import gcd

from closehaul.bearings import sides_of
from closehaul.errors import NoShares
from closehaul.shares import shares_end, shares_stand, shares_sum, shares_to
from tests.helper import (GREAT, all_winds, bow, can_be_sailed, check_told, far_of, how_far, is_bearing, is_fraction,
                          is_place, lattice, led_to, nested_tuples, pair, parts_of, place_at, places_about,
                          places_off_sides, random_wind, right_shares, shuffled, summed, weighted_shares)

SQUARE = ((0, 0), (4, 0), (4, 4), (0, 4))

# What are no shares of SQUARE: each spoils a part of what [4.1] asks.
NO_SHARES = (
    ((4, (1, 1)),), ((-1, (1, 1)),), ((-4, (1, 1)),), ((100, (1, 1)),), ((0, (1, 2)), (4, (1, 2))),
    ((-1, (1, 2)), (0, (1, 2))), ((0, (1, 2)), (-1, (1, 2))),
    ((1, (1, 2)), (1, (1, 2))), ((0, (1, 3)), (2, (1, 3)), (2, (1, 3))),
    ((2, (1, 2)), (1, (1, 2))), ((0, (1, 3)), (3, (1, 3)), (1, (1, 3))), ((3, (1, 3)), (0, (1, 3)), (1, (1, 3))),
    ((1, (0, 1)),), ((0, (1, 1)), (1, (0, 1))), ((0, (0, 1)), (1, (1, 1))),
    ((1, (-1, 1)),), ((0, (3, 2)), (1, (-1, 2))),
    ((1, (1, 0)),), ((1, (0, 0)),), ((0, (1, 1)), (1, (0, 0))), ((0, (1, 1)), (1, (1, 0))),
    ((1, (1, -1)),), ((1, (-1, -1)),), ((0, (-1, -2)), (1, (-1, -2))), ((0, (1, 1)), (1, (0, -1))),
    ((1, (2, 2)),), ((0, (2, 4)), (1, (1, 2))), ((0, (1, 2)), (1, (2, 4))), ((0, (1, 1)), (1, (0, 2))),
    ((0, (3 * GREAT, 6 * GREAT)), (1, (1, 2))),
)


def great_fractions(source, count, figures):
    fractions = []
    while len(fractions) < count:
        fraction = (source.randint(1, 10 ** figures - 1), source.randint(1, 10 ** figures - 1))
        if gcd(*fraction) == 1:
            fractions.append(fraction)
    return fractions


class SharesEnd(unittest.TestCase):
    """[4.1]"""

    def check(self, wind, shares):
        end = shares_end(wind, shares)
        self.assertTrue(is_place(end))
        self.assertEqual(parts_of(end), led_to(wind, shares))
        total = shares_sum(shares)
        self.assertTrue(is_fraction(total))
        self.assertEqual(total, pair(summed(shares)))

    def test_by_hand(self):
        self.assertEqual(shares_end(SQUARE, ((1, (1, 2)), (2, (1, 4)), (3, (1, 4)))), (3, 2, 1))
        self.assertEqual(shares_end(SQUARE, ((0, (2, 3)), (2, (1, 3)))), (4, 4, 3))
        self.assertEqual(shares_end(SQUARE, ((3, (1, 1)),)), (0, 4, 1))
        self.assertEqual(shares_end(SQUARE, ((1, (5, 6)),)), (10, 0, 3))
        self.assertEqual(shares_end(SQUARE, ((0, (7, 1)), (2, (5, 2)))), (10, 10, 1))
        self.assertEqual(shares_end(((1, -2), (-1, 2)), ((0, (1, 7)), (1, (1, 7)))), (0, 0, 1))
        self.assertEqual(shares_sum(((1, (1, 2)), (2, (1, 4)), (3, (1, 4)))), (1, 1))
        self.assertEqual(shares_sum(((0, (2, 3)), (2, (1, 6)))), (5, 6))
        self.assertEqual(shares_sum(((0, (7, 1)), (2, (5, 2)))), (19, 2))

    def test_no_shares_lead_to_the_start(self):
        self.assertEqual(shares_sum(()), (0, 1))
        for wind in all_winds():
            self.assertEqual(shares_end(wind, ()), (0, 0, 1))

    def test_winds_of_all_shapes(self):
        source = random.Random(51)
        for wind in all_winds():
            for figures in (1, 9, 150, 600):
                numbers = sorted(source.sample(range(len(wind)), source.randint(1, len(wind))))
                self.check(wind, tuple(zip(numbers, great_fractions(source, len(numbers), figures))))
            self.check(wind, weighted_shares([source.randint(0, 3) for heading in wind[1:]] + [1]))

    def test_many_great_shares_without_a_common_bottom(self):
        source = random.Random(52)
        wind = random_wind(source, 120, GREAT)
        self.check(wind, tuple(enumerate(great_fractions(source, 120, 600))))

    def test_no_shares_of_the_wind_are_refused(self):
        for shares in NO_SHARES:
            with self.subTest(shares=shares):
                with self.assertRaises(NoShares):
                    shares_end(SQUARE, shares)

    def test_the_last_heading_is_there_and_the_next_is_not(self):
        for wind in all_winds():
            self.assertEqual(shares_end(wind, ((len(wind) - 1, (1, 1)),)), wind[-1] + (1,))
            for number in (len(wind), -1, -len(wind)):
                with self.assertRaises(NoShares):
                    shares_end(wind, ((number, (1, 1)),))


class SharesTo(unittest.TestCase):
    """[4.2], and [4.3] of what is told."""

    def check(self, wind, place):
        answer = shares_to(wind, place)
        self.assertTrue(nested_tuples(answer))
        self.assertEqual(len(answer), 2)
        if can_be_sailed(wind, place):
            self.assertEqual(answer[0], "sailed", (wind, place))
            self.assertTrue(right_shares(wind, answer[1]), (wind, place))
            self.assertLessEqual(len(answer[1]), 3)
            self.assertEqual(led_to(wind, answer[1]), parts_of(place))
        else:
            self.assertEqual(answer[0], "barred", (wind, place))
            self.assertTrue(is_bearing(answer[1]))
            self.assertGreater(how_far(answer[1], place), far_of(wind, answer[1]) * place[2])
        self.assertIs(shares_stand(wind, place, answer), True, (wind, place))

    def test_by_hand(self):
        self.assertEqual(shares_to(((2, 3),), (2, 3, 1)), ("sailed", ((0, (1, 1)),)))
        self.assertEqual(shares_to(((2, 3), (2, 3)), (2, 3, 1))[0], "sailed")
        self.assertEqual(shares_to(((2, 3),), (2, 3, 2))[0], "barred")
        self.assertEqual(shares_to(((0, 0), (4, 2)), (1, 1, 1))[0], "barred")
        self.assertEqual(shares_to(((0, 0), (4, 2)), (2, 1, 2)), ("sailed", ((0, (3, 4)), (1, (1, 4)))))
        self.assertEqual(shares_to(((4, 2), (0, 0)), (2, 1, 2)), ("sailed", ((0, (1, 4)), (1, (3, 4)))))
        self.assertEqual(shares_to(((0, 0), (4, 0), (0, 4)), (1, 1, 1)),
                         ("sailed", ((0, (1, 2)), (1, (1, 4)), (2, (1, 4)))))
        self.assertEqual(shares_to(((0, 4), (0, 0), (4, 0)), (3, 1, 1)), ("sailed", ((0, (1, 4)), (2, (3, 4)))))
        self.assertEqual(shares_to(SQUARE, (4, 4, 1)), ("sailed", ((2, (1, 1)),)))

    def test_winds_of_all_shapes(self):
        for number, wind in enumerate(all_winds()):
            for place in places_about(wind, number):
                self.check(wind, place)
            for place in places_about(wind, number + 1)[::5]:
                self.check(shuffled(wind + wind, number), place)

    def test_a_lattice_of_places(self):
        for wind in (SQUARE, lattice(3, 3), ((0, 0), (4, 2), (2, 1)), ((1, 0), (3, 0), (4, 2), (3, 4), (1, 4), (0, 2))):
            for x in range(-2, 11):
                for y in range(-2, 11):
                    bottom = 2 if x % 2 or y % 2 else 1
                    self.check(wind, (x * bottom // 2, y * bottom // 2, bottom))

    def test_a_hair_off_each_side(self):
        for wind in all_winds():
            for place in places_off_sides(wind, sides_of(wind)):
                self.check(wind, place)

    def test_300_headings(self):
        source = random.Random(53)
        for wind in (shuffled(bow(300, 10 ** 145), 1), shuffled(lattice(20, 15), 2), random_wind(source, 300, GREAT)):
            for place in places_about(wind):
                self.check(wind, place)

    def test_great_places(self):
        most = 10 ** 600 - 1
        for wind in all_winds():
            for place in ((most, 1, most - 1), (1, -most, most - 1), (-1, 1, most), (most, most, 1),
                          (1 - most, 2, most)):
                self.check(wind, place)


class SharesStand(unittest.TestCase):
    """[4.3]"""

    def test_any_count_of_shares(self):
        source = random.Random(54)
        for wind in all_winds() + [random_wind(source, 300, GREAT)]:
            for most in (1, 5, 10 ** 9, 10 ** 590):
                weights = [source.randint(0, most) for heading in wind[1:]] + [1]
                shares = weighted_shares(shuffled(weights, most))
                place = place_at(*led_to(wind, shares))
                self.assertIs(shares_stand(wind, place, ("sailed", shares)), True)
                elsewhere = place_at(parts_of(place)[0], parts_of(place)[1] + Fraction(1, 10 ** 20))
                self.assertIs(shares_stand(wind, elsewhere, ("sailed", shares)), False)

    def test_no_shares_of_the_wind(self):
        # Each is handed in with the place to which it would lead, where that can be reckoned.
        for shares in NO_SHARES:
            places = [(0, 0, 1), (4, 0, 1), (2, 0, 1), (0, 4, 1)]
            if all(share[1] != 0 and -4 <= number < 4 for number, share in shares):
                places.append(place_at(*led_to(SQUARE, shares)))
            for place in places:
                with self.subTest(shares=shares, place=place):
                    self.assertIs(shares_stand(SQUARE, place, ("sailed", shares)), False)

    def test_not_one_together(self):
        start = (0, 0, 1)
        self.assertIs(shares_stand(SQUARE, start, ("sailed", ((0, (1, 1)),))), True)
        for shares in ((), ((0, (1, 2)),), ((0, (2, 1)),), ((0, (GREAT, GREAT + 1)),), ((0, (GREAT + 1, GREAT)),)):
            self.assertIs(shares_stand(SQUARE, start, ("sailed", shares)), False)
        self.assertIs(shares_stand(SQUARE, (2, 2, 1), ("sailed", ((2, (1, 2)),))), False)
        self.assertIs(shares_stand(SQUARE, (6, 6, 1), ("sailed", ((0, (1, 2)), (2, (3, 2))))), False)
        self.assertIs(shares_stand(((0, 0), (0, 0), (4, 0)), (2, 0, 1), ("sailed", ((1, (1, 2)), (2, (1, 2))))), True)
        self.assertIs(shares_stand(((0, 0), (0, 0), (4, 0)), (2, 0, 1), ("sailed", ((1, (1, 3)), (2, (1, 2))))), False)

    def test_leading_elsewhere(self):
        shares = ((1, (1, 2)), (3, (1, 2)))
        self.assertIs(shares_stand(SQUARE, (2, 2, 1), ("sailed", shares)), True)
        for place in ((2, 1, 1), (1, 2, 1), (0, 0, 1), (5, 4, 2), (4, 5, 2), (-2, -2, 1), (2, 2, 3)):
            self.assertIs(shares_stand(SQUARE, place, ("sailed", shares)), False)

    def test_bearings(self):
        for bearing, place, stands in [
            ((1, 0), (5, 1, 1), True), ((1, 0), (4, 1, 1), False), ((1, 0), (9, 2, 2), True),
            ((1, 0), (7, 2, 2), False),
            ((-1, 0), (5, 1, 1), False), ((0, 1), (5, 1, 1), False), ((5, -1), (5, 1, 1), True),
            ((1, 1), (5, 4, 1), True), ((1, 1), (4, 4, 1), False), ((1, 1), (5, 3, 1), False),
            ((2, 1), (5, 3, 1), True),
            ((-1, -1), (-1, 0, GREAT), True), ((1, 1), (-1, 0, GREAT), False), ((0, -7), (2, -1, 9), True),
            ((10 ** 599, 1), (5, 1, 1), True), ((-10 ** 599, 1), (5, 1, 1), False),
            ((0, 0), (5, 1, 1), False), ((0, 0), (1, 1, 1), False), ((0, 0), (-5, 9, 2), False),
        ]:
            with self.subTest(bearing=bearing, place=place):
                self.assertIs(shares_stand(SQUARE, place, ("barred", bearing)), stands)

    def test_no_bearing_bars_what_can_be_sailed(self):
        for wind in all_winds():
            for place in places_about(wind)[::7]:
                if can_be_sailed(wind, place):
                    for bearing in ((1, 0), (-3, 4), (0, -1), (0, 0)) + tuple(side[0] for side in sides_of(wind)):
                        self.assertIs(shares_stand(wind, place, ("barred", bearing)), False)

    def test_other_texts(self):
        for text in ("", "bar", "Barred", "barred ", "course", "at", "never", "sail", "Sailed", " sailed"):
            self.assertIs(shares_stand(SQUARE, (5, 1, 1), (text, (1, 0))), False)
            self.assertIs(shares_stand(SQUARE, (1, 1, 1), (text, (1, 0))), False)


class Told(unittest.TestCase):
    """[0.3]"""

    def test_the_same_each_time(self):
        for wind in all_winds()[::3]:
            shares = ((len(wind) - 1, (2, 3)),)
            place = (3, -2, 7)
            answer = shares_to(wind, place)
            asked = [(shares_end, (wind, shares)), (shares_sum, (shares,)), (shares_to, (wind, place)),
                     (shares_stand, (wind, place, answer))]
            check_told(self, asked)


if __name__ == "__main__":
    unittest.main()

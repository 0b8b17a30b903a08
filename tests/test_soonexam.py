import random
import unittest
from fractions import Fraction

from closehaul.soonest import short_end, soonest
from closehaul.soonexam import barred_from, soonest_stands
from tests.helper import (check_told, had_at, left_by, pair, parts_of, place_at, random_course, random_row,
                          short_led_to)

START = (0, 0, 1)
LINE = (((0, 0), (4, 0)), (0, 0))
SQUARE = (((0, 0), (4, 0), (4, 4), (0, 4)), (0, 0))
CARRIED = (((0, 0), (0, 1)), (-2, 0))
EAST = (1, 0)
WEST = (-1, 0)
NORTH = (0, 1)
SOUTH = (0, -1)
WAYS = (EAST, WEST, NORTH, SOUTH)
WHOLE = ((0, 1), (1, 1))


def random_bearing(source, most):
    bearing = (source.randint(-most, most), source.randint(-most, most))
    return bearing if bearing != (0, 0) else EAST


def random_answers(seed, count):
    """Rows of watches, places and what is told of them, half of them at a moment, the same ones each time."""
    source = random.Random(seed)
    found = []
    while len(found) < count:
        watches = random_row(source, source.choice((1, 2, 4)), source.randint(1, 4))
        if len(found) % 2 == 0:
            place = place_at(Fraction(source.randint(-9, 9), source.choice((1, 2, 3))), Fraction(source.randint(-9, 9)))
        else:
            course = random_course(source, watches[:source.randint(1, len(watches))], 3)
            place = place_at(*short_led_to(watches, course))
        found.append((watches, place, soonest(watches, place)))
    return found


class BarredFrom(unittest.TestCase):
    """[6.3]"""

    def test_no_bearings(self):
        for number in (0, 1):
            for place in (START, (9, 9, 1)):
                self.assertEqual(barred_from((LINE, CARRIED), number, place, ()), WHOLE)

    def test_by_hand(self):
        watches = (LINE, CARRIED)
        for number, place, bearings, left in [
            # All fractions left.
            (0, START, (EAST,), WHOLE), (0, START, WAYS, WHOLE), (0, (1, 0, 1), (NORTH, SOUTH, WEST), WHOLE),
            (1, (1, 0, 1), WAYS, WHOLE), (1, (2, 0, 1), (EAST, WEST), WHOLE),
            # Some, from the end or from the beginning on.
            (0, (1, 0, 1), (EAST,), ((1, 4), (1, 1))), (0, (6, 0, 4), (EAST,), ((3, 8), (1, 1))),
            (0, (1, 0, 1), (EAST, NORTH), ((1, 4), (1, 1))), (1, (3, 0, 1), (EAST,), ((0, 1), (1, 2))),
            (1, (-1, 0, 1), (WEST,), ((1, 2), (1, 1))), (1, (0, 1, 3), (NORTH,), ((1, 3), (1, 1))),
            (1, (3, 1, 3), WAYS, ((1, 3), (1, 1))), (1, (7, 1, 2), WAYS, None),
            (1, (3, 0, 1), ((10 ** 59, 1), (10 ** 59, 0)), ((0, 1), (1, 2))),
            # One fraction alone.
            (0, (4, 0, 1), (EAST,), ((1, 1), (1, 1))), (1, (4, 0, 1), (EAST,), ((0, 1), (0, 1))),
            (1, (-2, 0, 1), (WEST,), ((1, 1), (1, 1))), (1, (6, 1, 2), (EAST, NORTH), ((1, 2), (1, 2))),
            # None.
            (0, (5, 0, 1), (EAST,), None), (0, (0, 1, 9), (NORTH,), None), (0, (0, -1, 9), (SOUTH,), None),
            (0, (-1, 0, 9), (WEST,), None), (1, (-1, 0, 1), (WEST, SOUTH), ((1, 2), (1, 1))),
            (1, (-5, 0, 2), (WEST,), None), (1, (9, 0, 2), (EAST,), None), (1, (7, 3, 2), (NORTH, EAST), None),
            (1, (7, 1, 2), (NORTH,), ((1, 2), (1, 1))), (1, (7, 1, 2), (EAST,), ((0, 1), (1, 4))),
            (1, (7, 1, 2), (EAST, NORTH), None), (1, (7, 1, 2), (NORTH, EAST), None),
        ]:
            with self.subTest(number=number, place=place, bearings=bearings):
                place = place_at(*parts_of(place))
                self.assertEqual(barred_from(watches, number, place, bearings), left)

    def test_bearings_that_bar_nothing_or_all(self):
        still = ((((0, 0),), (0, 0)), (((1, 1), (-1, -1)), (0, 0)))
        self.assertEqual(barred_from(still, 0, START, WAYS), WHOLE)
        self.assertEqual(barred_from(still, 0, (1, 0, 10 ** 59), (WEST, NORTH, SOUTH)), WHOLE)
        self.assertIsNone(barred_from(still, 0, (1, 0, 10 ** 59), (WEST, EAST)))
        self.assertEqual(barred_from(still, 1, (1, 1, 2), ((1, -1), (-1, 1))), WHOLE)
        self.assertIsNone(barred_from(still, 1, (1, 2, 2), ((1, -1), (-1, 1))))

    def test_rows_of_all_kinds(self):
        source = random.Random(81)
        kinds = {}
        for time in range(4000):
            most = source.choice((1, 2, 3, 10 ** 9))
            watches = random_row(source, most, source.randint(1, 3))
            number = source.randrange(len(watches))
            place = place_at(Fraction(source.randint(-4 * most, 4 * most), source.choice((1, 2, 7))),
                             Fraction(source.randint(-4 * most, 4 * most), source.choice((1, 3))))
            bearings = tuple(random_bearing(source, source.choice((1, 3, 10 ** 59)))
                             for time in range(source.choice((1, 1, 2, 2, 3, 6))))
            left = barred_from(watches, number, place, bearings)
            self.assertEqual(left, left_by(watches, number, place, bearings), (watches, number, place, bearings))
            kind = left if left in (None, WHOLE) else (left[0] == (0, 1), left[1] == (1, 1), left[0] == left[1])
            kinds[kind] = kinds.get(kind, 0) + 1
        self.assertGreater(min(kinds.get(kind, 0) for kind in (None, WHOLE, (True, False, False))), 20)
        self.assertGreater(min(kinds.get(kind, 0) for kind in ((False, True, False), (False, False, False))), 20)


class SoonestStands(unittest.TestCase):
    """[6.5]"""

    def assert_taken(self, watches, place, answer):
        self.assertIs(soonest_stands(watches, place, answer), True, (watches, place, answer))

    def assert_not_taken(self, watches, place, answer):
        self.assertIs(soonest_stands(watches, place, answer), False, (watches, place, answer))

    def test_the_told_answer_is_taken(self):
        for watches, place, answer in random_answers(82, 800):
            self.assert_taken(watches, place, answer)

    def test_great_numbers(self):
        source = random.Random(83)
        for time in range(30):
            watches = random_row(source, 10 ** 9, source.choice((1, 3, 12)))
            most = 10 ** 60 - 1
            for place in ((source.randint(-most, most), 1, most), (10 ** 9, source.randint(-10 ** 9, 10 ** 9), 1)):
                self.assert_taken(watches, place, soonest(watches, place))

    def test_any_right_answer_is_taken(self):
        watches = (LINE, SQUARE)
        place = (6, 2, 1)
        course = (((1, (1, 1)),), ((2, (1, 2)),))
        other = (((0, (1, 4)), (1, (3, 4))), ((0, (1, 10)), (1, (3, 20)), (2, (1, 4))))
        bars = ((NORTH,), (NORTH,))
        self.assert_taken(watches, place, ("at", (3, 2), course, bars))
        for entries in (((NORTH, EAST), (EAST, NORTH, WEST)), (((0, 7),), ((0, 10 ** 59),)), ((EAST,), ((1, 1), NORTH)),
                        ((EAST, EAST), WAYS), (((1, 5),), (SOUTH, (0, 3)))):
            self.assert_taken(watches, place, ("at", (3, 2), course, entries))
        self.assert_not_taken(watches, place, ("at", (3, 2), other, bars))
        same = (((0, (1, 4)), (1, (3, 4))), ((1, (1, 4)), (2, (1, 4))))
        self.assertEqual(short_end(watches, same), (5, 1, 1))
        self.assert_not_taken(watches, place, ("at", (3, 2), same, bars))
        self.assert_taken((LINE, LINE), (2, 0, 1), ("at", (1, 2), (((1, (1, 2)),),), ((EAST,),)))
        self.assert_taken((CARRIED,), (-2, 1, 2), ("at", (1, 2), (((1, (1, 2)),),), (((-1, 0), NORTH),)))
        self.assert_taken((LINE,), (9, 0, 1), ("never", ((EAST, NORTH, SOUTH),)))
        self.assert_taken((LINE, CARRIED), (9, 0, 1), ("never", (((10 ** 59, 3),), WAYS)))
        self.assert_taken((), (1, 0, 1), ("never", ()))
        self.assert_taken((), START, ("at", (0, 1), (), ()))
        self.assert_taken((LINE,), START, ("at", (0, 1), (), ()))

    def test_no_later_moment(self):
        # The place is had at 1/4 and ever after, so each of these courses leads there, but none the soonest.
        late = ((0, (3, 4)), (1, (1, 4)))
        for moment, course in [((1, 1), (late,)), ((1, 2), (((0, (1, 4)), (1, (1, 4))),)),
                               ((5, 4), (late, ((0, (1, 4)),))), ((2, 1), (late, ((0, (1, 1)),)))]:
            self.assertEqual(short_end((LINE, LINE), course), (1, 0, 1))
            for entry in ((EAST,), WAYS, ((1, 1), (1, -1))):
                self.assert_not_taken((LINE, LINE), (1, 0, 1), ("at", moment, course, (entry,) * len(course)))
        self.assert_taken((LINE, LINE), (1, 0, 1), ("at", (1, 4), (((1, (1, 4)),),), ((EAST,),)))

    def test_no_other_moment_and_no_other_place(self):
        for watches, place, answer in random_answers(84, 300):
            if answer[0] == "at":
                moment = Fraction(*answer[1])
                for change in (Fraction(1, 10 ** 50), Fraction(1, 2), Fraction(1), Fraction(-1), Fraction(-1, 3)):
                    self.assert_not_taken(watches, place, ("at", pair(moment + change)) + answer[2:])
                for spoilt in ((answer[1][0] * 2, answer[1][1] * 2), (-answer[1][0], -answer[1][1]), (0, 0)):
                    if spoilt != answer[1]:
                        self.assert_not_taken(watches, place, ("at", spoilt) + answer[2:])
                for east, north in ((Fraction(1, 10 ** 50), 0), (0, Fraction(-1, 2)), (-3, 3)):
                    elsewhere = place_at(parts_of(place)[0] + east, parts_of(place)[1] + north)
                    self.assert_not_taken(watches, elsewhere, answer)

    def test_no_spoilt_course(self):
        for watches, place, answer in random_answers(85, 300):
            if answer[0] == "at" and answer[2]:
                course = answer[2]
                spoilt = [course[1:], course[:-1], course + (((0, (1, 1)),),), course + ((),), ()]
                for number, shares in enumerate(course):
                    beyond = len(watches[number][0])
                    more = tuple((heading, (2 * share[0], 2 * share[1])) for heading, share in shares)
                    about = tuple((heading, (-share[0], -share[1])) for heading, share in shares)
                    for other in ((), more, about, ((-1, (1, 1)),), ((beyond, (1, 1)),), shares + shares, shares[1:]):
                        spoilt.append(course[:number] + (other,) + course[number + 1:])
                for other in spoilt:
                    self.assert_not_taken(watches, place, ("at", answer[1], other, answer[3]))

    def test_a_part_of_the_shares_below_nought_is_not_taken(self):
        # Together these are 1/4 and lead there, but shares are above nought.
        course = (((0, (-3, 4)), (1, (1, 1))),)
        self.assert_not_taken((LINE,), (4, 0, 1), ("at", (1, 4), course, ((EAST,),)))
        # A whole watch of less than 1, made good by a second one of more than 1.
        short = (((1, (1, 2)),), ((1, (1, 1)),))
        self.assert_not_taken((LINE, LINE), (6, 0, 1), ("at", (3, 2), short, ((EAST,), (EAST,))))
        over = (((1, (3, 2)),),)
        self.assert_not_taken((LINE, LINE), (6, 0, 1), ("at", (3, 2), over, ((EAST,),)))
        self.assert_not_taken((LINE, LINE), (6, 0, 1), ("at", (3, 2), over, ((EAST,), (EAST,))))
        self.assert_taken((LINE, LINE), (6, 0, 1),
                          ("at", (3, 2), (((1, (1, 1)),), ((1, (1, 2)),)), ((EAST,), (EAST,))))

    def test_an_entry_too_few_or_too_many(self):
        for watches, place, answer in random_answers(86, 400):
            bars = answer[-1]
            others = [bars + ((EAST,),), bars + (WAYS,), bars + ((),)]
            if bars:
                others.extend([bars[1:], bars[:-1], ()])
                others.append(bars + bars[-1:])
            for other in others:
                self.assert_not_taken(watches, place, answer[:-1] + (other,))
        self.assert_not_taken((), (1, 0, 1), ("never", ((EAST,),)))
        self.assert_not_taken((LINE,), START, ("at", (0, 1), (), ((EAST,),)))

    def test_an_entry_without_a_bearing_or_with_nought(self):
        for watches, place, answer in random_answers(87, 300):
            bars = answer[-1]
            for number, entry in enumerate(bars):
                for other in ((), ((0, 0),), entry + ((0, 0),), ((0, 0),) + entry):
                    self.assert_not_taken(watches, place, answer[:-1] + (bars[:number] + (other,) + bars[number + 1:],))

    def test_an_entry_that_does_not_bar(self):
        source = random.Random(88)
        taken = 0
        for watches, place, answer in random_answers(89, 500):
            for number in range(len(answer[-1])):
                entry = tuple(random_bearing(source, 3) for time in range(source.choice((1, 2, 3))))
                left = left_by(watches, number, place, entry)
                bars = answer[-1][:number] + (entry,) + answer[-1][number + 1:]
                stands = left is None
                if answer[0] == "at" and number == len(bars) - 1:
                    stands = Fraction(*left[0]) == Fraction(*answer[1]) - number
                self.assertIs(soonest_stands(watches, place, answer[:-1] + (bars,)), stands)
                taken += stands
        self.assertGreater(taken, 50)

    def test_no_never_of_a_place_that_can_be_had(self):
        for watches, place, answer in random_answers(90, 400):
            if answer[0] == "at":
                whole = answer[3] + (WAYS,) * (len(watches) - len(answer[3]))
                for bars in (whole, (WAYS,) * len(watches), answer[3], ((EAST, WEST),) * len(watches)):
                    self.assert_not_taken(watches, place, ("never", bars))

    def test_no_never_of_the_start(self):
        self.assert_not_taken((), START, ("never", ()))
        for watches in ((LINE,), (CARRIED, LINE)):
            for entry in (WAYS, (EAST,), ((1, 1), (-1, -1))):
                self.assert_not_taken(watches, START, ("never", (entry,) * len(watches)))

    def test_no_at_of_a_place_that_can_not_be_had(self):
        for course in ((), (((1, (1, 1)),),), (((0, (1, 1)),),)):
            for bars in ((), ((EAST,),), (WAYS,)):
                for moment in ((0, 1), (1, 1), (5, 4)):
                    self.assert_not_taken((LINE,), (5, 0, 1), ("at", moment, course, bars))

    def test_another_text_and_another_length(self):
        for watches, place, answer in random_answers(91, 30):
            for text in ("", "At", "at ", "Never", "course", "barred", "sailed", "never\n"):
                self.assert_not_taken(watches, place, (text,) + answer[1:])
            other = "never" if answer[0] == "at" else "at"
            self.assert_not_taken(watches, place, (other,) + answer[1:])

    def test_told_moments_are_had(self):
        for watches, place, answer in random_answers(92, 100):
            if answer[0] == "at":
                self.assertTrue(had_at(watches, place, Fraction(*answer[1])))


class Told(unittest.TestCase):
    """[0.3]"""

    def test_the_same_each_time(self):
        for watches, place, answer in random_answers(93, 60):
            check_told(self, [(barred_from, (watches, 0, place, WAYS)), (barred_from, (watches, 0, place, (EAST,))),
                              (soonest_stands, (watches, place, answer)),
                              (soonest_stands, (watches, place, ("never", answer[-1])))])


if __name__ == "__main__":
    unittest.main()

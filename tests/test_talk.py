import random
import unittest
from fractions import Fraction

from closehaul.buoys import passing
from closehaul.courses import course_to, reach_of
from closehaul.errors import NoDeed, NoShares, NoText, NoWind
from closehaul.log import Log
from closehaul.soonest import soonest
from closehaul.talk import line_said, log_of
from tests.helper import parts_of, place_at, random_course, random_row, short_led_to, weighted_shares

LINES = ("wind east 0,0 2,0", "wind square 0,0 4,0 4,4 0,4", "watch square 1,-1", "watch east 0,3", "watch square 0,0",
         "sail 1:1/2 3:1/2")
QUESTIONS = ("place", "track", "reach", "deeds", "course 4,5", "course 1/2,-7", "soonest 4,4", "soonest 99,1", "buoys",
             "buoys 3,1 4,4", "buoys 0,0")

# What is no line at all.
NO_LINES = (
    # Another word.
    "", " ", "\n", "Wind a 0,0", "winds a 0,0", "WATCH a 0,0", "undone", "redo", "help", "places", "tracks", "1,2", "a",
    "unwind", "set a 0,0", "course1,2", "wind\ta 0,0", "place\n", "\nplace", "undo\n", "again\n", "deeds\n", "track\n",
    # Words lacking or too many.
    "wind", "wind a", "watch", "watch a", "watch a 0,0 0,0", "watch 0,0", "sail", "undo 1", "again 1", "undo undo",
    "place 0,0", "track 1", "reach 1", "reach 0,0", "deeds 1", "course", "course 1,2 3,4", "soonest", "soonest 1,2 3,4",
    "soonest 1 2", "buoys 1", "buoys" + " 0,0" * 9,
    # Two blanks, a blank or line end at an end.
    "wind  a 0,0", "wind a  0,0", "wind a 0,0  1,1", "watch  east 0,0", "watch east  0,0", "sail  1:1",
    "sail 0:1/2  1:1/2", " wind a 0,0", "wind a 0,0 ", "wind a 0,0\n", "\nwind a 0,0", " undo", "undo ", "again ",
    " again", "place ",
    " place", "track ", "reach ", " reach", "reach\n", "deeds ", "course  1,2", "course 1,2 ", "course 1,2\n",
    " course 1,2",
    "soonest 1,2 ", "soonest  1,2", "soonest 1,2\n", "buoys ", "buoys  ", " buoys", "buoys\n", "buoys 0,0 ",
    "buoys  0,0", "buoys 0,0  0,0", "buoys 0,0\n0,0", "sail 1:1 ", "sail 1:1\n", "watch east 0,0 ",
    "watch east 0,0\n", "wind\na 0,0",
    "wind \n 0,0", "wind a\n 0,0", "watch east\n 0,0", "watch \n 0,0", "wind a\nb 0,0", "watch  0,0", "wind  0,0",
    "undo\nundo", "place\nplace", "wind a 0,0\nundo",
    # Numbers that are none.
    "wind a 00,0", "wind a 0,-0", "wind a +1,0", "wind a 1.0,0", "wind a x,0", "wind a ,0", "wind a 0,", "wind a 1/2,0",
    "wind a 0x1,0", "wind a 1_0,0", "wind a 01,0", "wind a --1,0", "wind a -,0", "wind a 1-,0", "wind a 2/1,0",
    "wind a " + "1" * 601 + ",0", "wind a 0,0 0," + "9" * 601, "watch east 0,1/2", "watch east 00,0", "watch east -0,0",
    "watch east 1e3,0", "watch east 0,+1", "sail 01:1", "sail 1/2:1", "sail -0:1", "sail x:1", "sail :1", "sail +1:1",
    "watch east " + "1" * 601 + ",0", "sail " + "1" * 601 + ":1",
    # Fractions that are none.
    "sail 1:2/4", "sail 1:1/1", "sail 1:3/1", "sail 1:1/0", "sail 1:0/1", "sail 1:-0", "sail 1:+1", "sail 1:1/-2",
    "sail 1:", "sail 1:1/", "sail 1:/2", "sail 1:1//2", "sail 1:0.5", "sail 1:01", "sail 1:1/02", "sail 1:x",
    "sail 1:1/2/3", "sail 1:1/" + "9" * 601, "course 2/4,1", "course 1,2/4", "course 1/1,0", "course 0,3/1",
    "course 1/0,0", "course -0,0", "course +1,0", "course 0,01", "soonest 2/4,1", "soonest 1,1/0", "soonest 0,-0",
    "buoys 2/4,1", "buoys 0,0 1,6/4", "buoys -0,0", "course 1," + "1" * 601, "soonest 1/" + "1" * 601 + ",0",
    # Marks lacking or doubled.
    "wind a 00", "wind a 1", "wind a 1,2,3", "wind a 1,,2", "wind a ,1,2", "wind a 1,2,", "wind a 1;2", "wind a 1:2",
    "wind a (1,2)", "wind a 1,2 3", "watch east 1", "watch east 1,2,3", "watch east 1,,2", "watch east 1:2", "sail 1",
    "sail 1,1", "sail 1::1", "sail 1:1:1", "sail :1:1", "sail 0:1/2,1:1/2", "sail 0:1/2 1", "course 1", "course 1,2,3",
    "course 1,,2", "course 1:2", "soonest 1", "soonest 1,2,3", "soonest 1;2", "buoys 1,2,3", "buoys 1,2 3", "buoys 1:2",
    "sail 1=1", "wind a 1,2, 3,4", "wind a 1, 2", "course 1, 2", "sail 1: 1", "sail 1 :1",
)


def tells(log):
    return tuple(line_said(log, line) for line in ("place", "track", "reach", "deeds")) + (
        log.names(), tuple(log.wind_named(name) for name in log.names()), log.watches(), log.watches_left(),
        log.place_now(), log.track(), log.deeds())


def fraction_text(value):
    return str(value.numerator) if value.denominator == 1 else f"{value.numerator}/{value.denominator}"


def place_text(place):
    return ",".join(fraction_text(part) for part in parts_of(place))


def shares_text(shares):
    return " ".join(f"{number}:{fraction_text(Fraction(*share))}" for number, share in shares)


def from_here(log, place):
    east, north = parts_of(log.place_now())
    return place_at(parts_of(place)[0] - east, parts_of(place)[1] - north)


class Lines(unittest.TestCase):
    """[10.3]"""

    def test_by_hand(self):
        log = Log()
        for line, answer in [
            ("place", "0,0"), ("track", "0,0"), ("reach", "0,0"), ("deeds", ""), ("buoys", "passed"),
            ("course 0,0", "sailed"), ("soonest 0,0", "at 0"), ("soonest 1,0", "never"), ("buoys 1,0", "none"),
            ("buoys 0,0 0,0", "passed 0 0"),
            ("wind east 0,0 2,0", "done"), ("wind up 0,1", "done"), ("watch east 0,-1", "done"),
            ("watch up 1,0", "done"),
            ("reach", "1,0 3,0"), ("course 3,0", "sailed\n1:1\n0:1"), ("course 2,0", "sailed\n0:1/2 1:1/2\n0:1"),
            ("soonest 1,-1/2", "at 1/2\n1:1/2"), ("soonest 2,-1", "at 1\n1:1"), ("soonest 3,0", "at 2\n1:1\n0:1"),
            ("soonest 5/2,-1/2", "at 3/2\n1:1\n0:1/2"), ("soonest 0,1", "never"),
            ("buoys 2,-1", "passed 1\n1:1"), ("buoys 0,0 2,-1 2,-1 3,0", "passed 0 1 1 2\n1:1\n0:1"),
            ("buoys 2,-1 2,0", "none"), ("place", "0,0"), ("sail 0:1/3 1:2/3", "done"), ("place", "4/3,-1"),
            ("track", "0,0 4/3,-1"), ("reach", "1,1"), ("course 7/3,0", "sailed\n0:1"),
            ("soonest 11/6,-1/2", "at 1/2\n0:1/2"), ("soonest 4/3,-1", "at 0"), ("buoys 4/3,-1", "passed 0"),
            ("buoys 4/3,-1 7/3,0", "passed 0 1\n0:1"), ("soonest 0,0", "never"), ("buoys 0,0", "none"),
            ("deeds", "wind east 0,0 2,0\nwind up 0,1\nwatch east 0,-1\nwatch up 1,0\nsail 0:1/3 1:2/3"),
            ("undo", "done"), ("place", "0,0"), ("track", "0,0"), ("again", "done"), ("place", "4/3,-1"),
            ("sail 0:1", "done"), ("track", "0,0 4/3,-1 7/3,0"), ("reach", "0,0"), ("course 7/3,0", "sailed"),
        ]:
            with self.subTest(line=line):
                self.assertEqual(line_said(log, line), answer)

    def test_barred(self):
        log = log_of(("wind one 3,1", "watch one 0,0"))
        word, bearing = line_said(log, "course 4,1").split(" ")
        self.assertEqual(word, "barred")
        east, north = map(int, bearing.split(","))
        self.assertGreater(east * 4 + north, east * 3 + north)
        self.assertEqual((east, north), course_to(log.watches_left(), (4, 1, 1))[1])

    def test_answers_are_those_of_the_functions(self):
        source = random.Random(161)
        for time in range(60):
            row = random_row(source, source.choice((2, 5, 10 ** 9)), source.randint(0, 4))
            log = Log()
            for number, (wind, stream) in enumerate(row):
                name = "wind" + "abcd"[number]
                headings = " ".join(f"{x},{y}" for x, y in wind)
                self.assertEqual(line_said(log, f"wind {name} {headings}"), "done")
                self.assertEqual(line_said(log, f"watch {name} {stream[0]},{stream[1]}"), "done")
            course = random_course(source, row, 3)
            for shares in course[:source.randint(0, len(row))]:
                self.assertEqual(line_said(log, "sail " + shares_text(shares)), "done")
            self.assertEqual(log.watches(), row)
            ends = [place_at(*short_led_to(row, course)), (source.randint(-9, 9), 1, 2), (1, 2, 1)]
            for place in ends:
                self.check_questions(log, place)
            self.check_buoys(log, (log.place_now(),) + tuple(ends[:1]))
            self.check_buoys(log, ends[:source.randint(0, 2)])

    def check_questions(self, log, place):
        left = log.watches_left()
        self.assertEqual(line_said(log, "place"), place_text(log.place_now()))
        self.assertEqual(line_said(log, "track"), " ".join(map(place_text, log.track())))
        self.assertEqual(line_said(log, "deeds"), "\n".join(log.deeds()))
        self.assertEqual(line_said(log, "reach"), " ".join(f"{x},{y}" for x, y in reach_of(left)))
        word, told = course_to(left, from_here(log, place))
        lines = [f"barred {told[0]},{told[1]}"] if word == "barred" else ["sailed"] + list(map(shares_text, told))
        self.assertEqual(line_said(log, "course " + place_text(place)), "\n".join(lines))
        answer = soonest(left, from_here(log, place))
        lines = ["never"]
        if answer[0] == "at":
            lines = ["at " + fraction_text(Fraction(*answer[1]))] + list(map(shares_text, answer[2]))
        self.assertEqual(line_said(log, "soonest " + place_text(place)), "\n".join(lines))

    def check_buoys(self, log, places):
        told = passing(log.watches_left(), tuple(from_here(log, place) for place in places))
        lines = ["none"]
        if told is not None:
            lines = ["passed" + "".join(f" {number}" for number in told[0])] + list(map(shares_text, told[1]))
        self.assertEqual(line_said(log, " ".join(["buoys"] + list(map(place_text, places)))), "\n".join(lines))

    def test_eight_buoys(self):
        log = log_of(LINES)
        self.assertEqual(line_said(log, "buoys" + " 3,1" * 8), "passed" + " 0" * 8)

    def test_questions_change_nothing(self):
        log = log_of(LINES)
        line_said(log, "undo")
        line_said(log, "undo")
        ahead = tells(log)
        for line in QUESTIONS:
            line_said(log, line)
            self.assertEqual(tells(log), ahead)
        line_said(log, "again")
        line_said(log, "again")
        self.assertEqual(tells(log), tells(log_of(LINES)))

    def test_deeds_said_to_a_new_log_tell_the_same(self):
        source = random.Random(162)
        most = 10 ** 9
        for time in range(40):
            log = Log()
            for step in range(40):
                line = self.random_line(source, log, most)
                try:
                    line_said(log, line)
                except (NoDeed, NoWind):
                    pass
            again = log_of(log.deeds())
            self.assertEqual(tells(again), tells(log))
            self.assertEqual(tells(log_of(tuple(line_said(log, "deeds").splitlines()))), tells(log))
            self.assertTrue(all(line.split(" ")[0] in ("wind", "watch", "sail") for line in log.deeds()))

    def random_line(self, source, log, most):
        word = source.choice(("wind", "watch", "watch", "sail", "sail", "undo", "again"))
        name = source.choice(("a", "b", "c"))
        numbers = [source.choice((0, 1, -7, most, -most)) for time in range(2 * source.randint(1, 4))]
        vectors = [f"{east},{north}" for east, north in zip(numbers[::2], numbers[1::2])]
        if word == "wind":
            return " ".join(["wind", name] + vectors)
        if word == "watch":
            return f"watch {name} {vectors[0]}"
        if word == "sail":
            wind = log.watches_left()[0][0] if log.watches_left() else ((0, 0),)
            weights = [source.randint(0, 10 ** 40) for heading in wind[1:]] + [1]
            return "sail " + shares_text(weighted_shares(weights))
        return word

    def test_great_shares_and_places(self):
        bottom = 10 ** 599 + 1
        log = log_of(("wind a 0,0 1,1", "watch a 0,0", f"sail 0:{bottom - 3}/{bottom} 1:3/{bottom}"))
        self.assertEqual(line_said(log, "place"), f"3/{bottom},3/{bottom}")
        self.assertEqual(line_said(log, f"course 3/{bottom},3/{bottom}"), "sailed")
        self.assertEqual(tells(log_of(log.deeds())), tells(log))


class Refusals(unittest.TestCase):
    """[10.4]"""

    def assert_refused(self, error, log, line):
        ahead = tells(log)
        with self.assertRaises(error) as refused:
            line_said(log, line)
        self.assertIs(type(refused.exception), error, line)
        self.assertEqual(tells(log), ahead)

    def test_what_is_no_line(self):
        for lines in ((), LINES):
            log = log_of(lines)
            for line in NO_LINES:
                with self.subTest(line=line):
                    self.assert_refused(NoText, log, line)
                    with self.assertRaises(NoText):
                        log_of(lines + (line,))

    def test_what_is_no_line_forgets_nothing(self):
        log = log_of(LINES + ("undo",))
        for line in NO_LINES:
            with self.assertRaises(NoText):
                line_said(log, line)
        self.assertEqual(line_said(log, "again"), "done")
        self.assertEqual(tells(log), tells(log_of(LINES)))

    def test_refused_as_the_deed_is(self):
        log = log_of(LINES)
        for line, error in [
            ("wind A 0,0", NoWind), ("wind abcdefghijklm 0,0", NoWind), ("wind 0,0 1,1", NoWind),
            ("wind a1 0,0", NoWind),
            ("wind a" + " 0,0" * 13, NoWind), ("wind a 1000000001,0", NoWind), ("wind a 0,0 0,-1000000001", NoWind),
            ("wind {a} 0,0", NoWind), ("wind a " + "1" * 600 + ",0", NoWind), ("wind wind, 0,0", NoWind),
            ("watch west 0,0", NoWind), ("watch East 0,0", NoWind), ("watch 0,0 0,0", NoWind),
            ("watch west 1000000001,0", NoWind), ("watch east 1000000001,0", NoDeed),
            ("watch east 0,-1000000001", NoDeed),
            ("watch east " + "1" * 600 + ",0", NoDeed),
            ("sail 0:1/2", NoShares), ("sail 2:1", NoShares), ("sail -1:1", NoShares), ("sail 0:0 1:1", NoShares),
            ("sail 0:-1 1:2", NoShares), ("sail 1:1/2 0:1/2", NoShares), ("sail 0:1/2 0:1/2", NoShares),
            ("sail 0:1/2 1:2/3", NoShares), ("sail " + "9" * 600 + ":1", NoShares), ("sail 0:2", NoShares),
            ("again", NoDeed),
        ]:
            with self.subTest(line=line):
                self.assert_refused(error, log, line)
        for line in ("undo", "again", "sail 0:1", "sail 5:7"):
            self.assert_refused(NoDeed, Log(), line)
        full = log_of(LINES[:2] + LINES[2:3] * 12)
        self.assert_refused(NoDeed, full, "watch east 0,0")
        self.assert_refused(NoWind, full, "watch west 0,0")
        self.assert_refused(NoText, full, "watch west 0")

    def test_a_wind_of_twelve_headings_at_the_bounds(self):
        log = Log()
        line = "wind abcdefghijkl" + " 1000000000,-1000000000" * 12
        self.assertEqual(line_said(log, line), "done")
        self.assertEqual(log.wind_named("abcdefghijkl"), ((10 ** 9, -10 ** 9),) * 12)
        self.assertEqual(line_said(log, "watch abcdefghijkl -1000000000,1000000000"), "done")


class LogOf(unittest.TestCase):
    """[10.3], [10.4]"""

    def test_lines_in_order(self):
        self.assertEqual(tells(log_of(())), tells(Log()))
        log = log_of(LINES)
        self.assertIsInstance(log, Log)
        self.assertEqual(log.deeds(), LINES)
        self.assertEqual(tells(log_of(LINES + ("undo", "undo", "again", "place", "again"))), tells(log))
        self.assertEqual(log_of(LINES + ("undo",)).deeds(), LINES[:-1])

    def test_refused_as_its_lines_are(self):
        for lines, error in [(LINES[2:], NoWind), (LINES + ("sail 0:1/2",), NoShares), (("undo",), NoDeed),
                             (LINES + ("",), NoText), (("wind A 0,0",), NoWind), (LINES[::-1], NoDeed)]:
            with self.assertRaises(error) as refused:
                log_of(lines)
            self.assertIs(type(refused.exception), error)

    def test_each_log_is_a_new_one(self):
        one = log_of(LINES)
        other = log_of(LINES)
        line_said(one, "undo")
        self.assertEqual(other.deeds(), LINES)

    def test_lines_handed_in_stay_as_they_are(self):
        lines = list(LINES)
        log_of(tuple(lines))
        self.assertEqual(tuple(lines), LINES)


class Whole(unittest.TestCase):
    """A course told is sailed watch by watch; where it is barred the boat is elsewhere at the end."""

    def test_courses_through_the_log(self):
        source = random.Random(163)
        barred = 0
        for time in range(80):
            row = random_row(source, source.choice((1, 3, 10 ** 9)), source.randint(0, 4))
            course = random_course(source, row, 2)
            place = place_at(*short_led_to(row, course))
            if source.randrange(2):
                place = place_at(parts_of(place)[0] + source.choice((1, 10 ** 9)), parts_of(place)[1])
            log = Log()
            for wind, stream in row:
                log.set_wind("w", wind)
                log.add_watch("w", stream)
            word, told = course_to(log.watches_left(), place)
            if word == "barred":
                barred += 1
            for shares in told if word == "course" else course:
                log.sail(shares)
            self.assertEqual(log.place_now() == place, word == "course")
            self.assertEqual(log.watches_left(), ())
        self.assertTrue(10 < barred < 70)

    def test_told_lines_are_sailed(self):
        source = random.Random(164)
        for time in range(40):
            row = random_row(source, 4, source.randint(1, 4))
            course = random_course(source, row, 2)
            place = place_at(*short_led_to(row, course))
            log = Log()
            for wind, stream in row:
                log.set_wind("w", wind)
                log.add_watch("w", stream)
            log.sail(course[0])
            told = line_said(log, "course " + place_text(place)).split("\n")
            self.assertEqual(told[0], "sailed")
            for line in told[1:]:
                self.assertEqual(line_said(log, "sail " + line), "done")
            self.assertEqual(log.place_now(), place)


if __name__ == "__main__":
    unittest.main()

import random
import unittest
from fractions import Fraction

from closehaul.errors import NoDeed, NoShares, NoText, NoWind, SailError
from closehaul.log import Log
from tests.helper import led_to, nested_tuples, place_at, random_wind, right_shares, weighted_shares

START = (0, 0, 1)
MOST = 10 ** 9
SQUARE = ((0, 0), (4, 0), (4, 4), (0, 4))
EAST = ((0, 0), (2, 0))
HALVES = ((0, (1, 2)), (1, (1, 2)))
ALL_EAST = ((1, (1, 1)),)

NO_WORDS = ("", "abcdefghijklm", "Breeze", "a1", "1", "a b", " a", "a ", "a\n", "\n", "-", "a_b", "A", "zZz", "a.", "{")
WORDS = ("a", "z", "abcdefghijkl", "zzzzzzzzzzzz", "breeze")

NO_WINDS = (
    (), ((1, 2),) * 13, [(1, 2)], 7, None, "east", True, {}, {(1, 2): True}, (1, 2), ((),), ((1,),), ((1, 2, 3),),
    ((1, 2), [3, 4]), ([1, 2],), (None,), ("ab",), (((1, 2), (3, 4)),), ((1, 2), 3),
    ((MOST + 1, 0),), ((0, MOST + 1),), ((-MOST - 1, 0),), ((0, -MOST - 1),), ((1, 2), (10 ** 60, 0)),
    ((True, 2),), ((1, False),), ((None, 1),), ((1, None),), (("1", 2),), ((1, "2"),), ((1.0, 2),), ((1, 2.5),),
    ((1, (2,)),), ((1, 2), (3, True)),
)


def looks(log):
    return (log.names(), tuple(log.wind_named(name) for name in log.names()), log.watches(), log.watches_left(),
            log.place_now(), log.track(), log.deeds())


def log_with(*deeds):
    log = Log()
    for deed in deeds:
        getattr(log, deed[0])(*deed[1:])
    return log


def sailed_log():
    return log_with(("set_wind", "east", EAST), ("set_wind", "square", SQUARE), ("add_watch", "square", (1, -1)),
                    ("add_watch", "east", (0, 3)), ("sail", ((1, (1, 2)), (3, (1, 2)))))


class Model:
    """What a log is to tell: each deed as a whole new state, so that undoing is going back to the one ahead."""

    def __init__(self):
        self.states = [({}, (), ((Fraction(0), Fraction(0)),), ())]
        self.undone = []

    def do(self, winds, row, track, line):
        self.states.append((winds, row, track, self.states[-1][3] + (line,)))
        self.undone = []

    def set_wind(self, name, wind):
        winds, row, track, lines = self.states[-1]
        headings = " ".join(f"{x},{y}" for x, y in wind)
        self.do({**winds, name: wind}, row, track, f"wind {name} {headings}")

    def add_watch(self, name, stream):
        winds, row, track, lines = self.states[-1]
        if name not in winds:
            raise NoWind
        if len(row) == 12 or max(map(abs, stream)) > MOST:
            raise NoDeed
        self.do(winds, row + ((winds[name], stream),), track, f"watch {name} {stream[0]},{stream[1]}")

    def sail(self, shares):
        winds, row, track, lines = self.states[-1]
        if len(track) > len(row):
            raise NoDeed
        wind, stream = row[len(track) - 1]
        if not right_shares(wind, shares):
            raise NoShares
        end = tuple(track[-1][k] + led_to(wind, shares)[k] + stream[k] for k in (0, 1))
        written = " ".join(f"{number}:{share[0]}" + (f"/{share[1]}" if share[1] > 1 else "")
                           for number, share in shares)
        self.do(winds, row, track + (end,), f"sail {written}")

    def undo(self):
        if len(self.states) == 1:
            raise NoDeed
        self.undone.append(self.states.pop())

    def again(self):
        if not self.undone:
            raise NoDeed
        self.states.append(self.undone.pop())

    def looks(self):
        winds, row, track, lines = self.states[-1]
        places = tuple(place_at(*spot) for spot in track)
        names = tuple(sorted(winds))
        return (names, tuple(winds[name] for name in names), row, row[len(track) - 1:], places[-1], places, lines)


class Deeds(unittest.TestCase):
    """[10.1], [10.2]"""

    def assert_refused(self, error, log, name, *things):
        """Just this class is raised, and nothing is changed, not even what can be done again."""
        ahead = looks(log)
        with self.assertRaises(error) as refused:
            getattr(log, name)(*things)
        self.assertIs(type(refused.exception), error)
        self.assertIsInstance(refused.exception, SailError)
        self.assertNotIsInstance(refused.exception, NoText)
        self.assertEqual(looks(log), ahead)

    def test_a_new_log(self):
        self.assertEqual(looks(Log()), ((), (), (), (), START, (START,), ()))

    def test_each_deed_gives_back_none(self):
        log = Log()
        self.assertIsNone(log.set_wind("east", EAST))
        self.assertIsNone(log.add_watch("east", (0, 3)))
        self.assertIsNone(log.sail(HALVES))
        self.assertIsNone(log.undo())
        self.assertIsNone(log.again())

    def test_by_hand(self):
        log = sailed_log()
        self.assertEqual(log.names(), ("east", "square"))
        self.assertEqual(log.wind_named("square"), SQUARE)
        self.assertEqual(log.watches(), ((SQUARE, (1, -1)), (EAST, (0, 3))))
        self.assertEqual(log.watches_left(), ((EAST, (0, 3)),))
        self.assertEqual(log.place_now(), (3, 1, 1))
        log.sail(((0, (2, 3)), (1, (1, 3))))
        self.assertEqual(log.place_now(), (11, 12, 3))
        self.assertEqual(log.track(), (START, (3, 1, 1), (11, 12, 3)))
        self.assertEqual(log.watches_left(), ())
        self.assertEqual(log.deeds(), ("wind east 0,0 2,0", "wind square 0,0 4,0 4,4 0,4", "watch square 1,-1",
                                       "watch east 0,3", "sail 1:1/2 3:1/2", "sail 0:2/3 1:1/3"))

    def test_names(self):
        log = Log()
        for name in WORDS:
            log.set_wind(name, EAST)
        self.assertEqual(log.names(), tuple(sorted(WORDS)))
        for name in NO_WORDS:
            self.assert_refused(NoWind, log, "set_wind", name, EAST)
            self.assert_refused(NoWind, log, "wind_named", name)
            self.assert_refused(NoWind, log, "add_watch", name, (0, 0))
        self.assert_refused(NoWind, log, "wind_named", "unknown")

    def test_winds(self):
        log = log_with(("set_wind", "a", EAST))
        for wind in (((0, 0),), ((MOST, -MOST),), ((-MOST, MOST),) * 12, ((1, 2), (1, 2)), ((3, 1), (0, 0), (2, 2))):
            log.set_wind("a", wind)
            self.assertEqual(log.wind_named("a"), wind)
        for wind in NO_WINDS:
            self.assert_refused(NoWind, log, "set_wind", "a", wind)
            self.assert_refused(NoWind, log, "set_wind", "other", wind)
            self.assert_refused(NoWind, log, "set_wind", "no word", wind)

    def test_a_wind_set_anew_changes_no_watch(self):
        log = log_with(("set_wind", "a", EAST), ("add_watch", "a", (0, 1)), ("set_wind", "a", SQUARE),
                       ("add_watch", "a", (0, 1)))
        self.assertEqual(log.watches(), ((EAST, (0, 1)), (SQUARE, (0, 1))))
        log.sail(ALL_EAST)
        self.assertEqual(log.place_now(), (2, 1, 1))
        self.assert_refused(NoShares, log, "sail", ((4, (1, 1)),))
        log.undo()
        log.undo()
        log.undo()
        self.assertEqual(log.wind_named("a"), EAST)
        log.undo()
        log.undo()
        self.assertEqual(log.names(), ())
        self.assert_refused(NoWind, log, "wind_named", "a")

    def test_undone_winds_tell_what_was_set_ahead(self):
        log = log_with(("set_wind", "a", EAST), ("set_wind", "b", SQUARE), ("set_wind", "a", SQUARE),
                       ("set_wind", "a", ((1, 1),)))
        for wind in (((1, 1),), SQUARE, EAST):
            self.assertEqual(log.wind_named("a"), wind)
            log.undo()
            if wind == SQUARE:
                self.assertEqual(log.names(), ("a", "b"))
                log.undo()
                self.assertEqual(log.names(), ("a",))
        self.assertEqual(log.names(), ())
        for count in range(4):
            log.again()
        self.assertEqual((log.wind_named("a"), log.wind_named("b")), (((1, 1),), SQUARE))

    def test_watches(self):
        log = log_with(("set_wind", "a", EAST))
        for stream in ((MOST, -MOST), (-MOST, MOST), (0, 0)):
            log.add_watch("a", stream)
        self.assertEqual([stream for wind, stream in log.watches()], [(MOST, -MOST), (-MOST, MOST), (0, 0)])
        for stream in ((MOST + 1, 0), (0, MOST + 1), (-MOST - 1, 0), (0, -MOST - 1), (10 ** 60, 10 ** 60)):
            self.assert_refused(NoDeed, log, "add_watch", "a", stream)
            self.assert_refused(NoWind, log, "add_watch", "b", stream)
        for count in range(9):
            log.add_watch("a", (count, 1))
        self.assertEqual(len(log.watches()), 12)
        self.assert_refused(NoDeed, log, "add_watch", "a", (0, 0))
        self.assert_refused(NoDeed, log, "add_watch", "a", (MOST + 1, 0))
        self.assert_refused(NoWind, log, "add_watch", "b", (0, 0))
        log.sail(ALL_EAST)
        self.assert_refused(NoDeed, log, "add_watch", "a", (0, 0))
        log.undo()
        log.undo()
        log.add_watch("a", (5, 5))
        self.assertEqual(log.watches()[-1], (EAST, (5, 5)))

    def test_sailings(self):
        log = log_with(("set_wind", "a", EAST))
        no_shares = ((), ((0, (1, 2)),), ((0, (1, 2)), (1, (2, 3))), ((0, (2, 1)),), ((2, (1, 1)),), ((-1, (1, 1)),),
                     HALVES[::-1], HALVES + HALVES, ((0, (1, 2)), (0, (1, 2))), ((0, (0, 1)), (1, (1, 1))),
                     ((0, (-1, 2)), (1, (3, 2))), ((0, (2, 4)), (1, (1, 2))), ((0, (-1, -1)),), ((0, (1, 0)),),
                     ((0, (2, 2)),))
        for shares in (HALVES, ALL_EAST) + no_shares:
            self.assert_refused(NoDeed, log, "sail", shares)
        log.add_watch("a", (0, 0))
        for shares in no_shares:
            self.assert_refused(NoShares, log, "sail", shares)
        log.sail(HALVES)
        self.assertEqual(log.place_now(), (1, 0, 1))
        for shares in (HALVES,) + no_shares:
            self.assert_refused(NoDeed, log, "sail", shares)

    def test_undone_and_done_again(self):
        log = sailed_log()
        states = [looks(log)]
        for count in range(5):
            log.undo()
            states.append(looks(log))
        self.assertEqual(states[-1], looks(Log()))
        self.assertEqual(states[1][5], (START,))
        self.assertEqual(states[3][2], ())
        self.assert_refused(NoDeed, log, "undo")
        for state in states[-2::-1]:
            log.again()
            self.assertEqual(looks(log), state)
        self.assert_refused(NoDeed, log, "again")

    def test_a_new_deed_forgets_what_is_undone(self):
        for name, things in (("set_wind", ("new", EAST)), ("add_watch", ("east", (0, 0))),
                             ("sail", ((1, (1, 2)), (3, (1, 2))))):
            log = sailed_log()
            log.undo()
            getattr(log, name)(*((things,) if name == "sail" else things))
            self.assert_refused(NoDeed, log, "again")
            log.undo()
            log.again()
            self.assert_refused(NoDeed, log, "again")

    def test_a_refused_deed_forgets_nothing(self):
        log = sailed_log()
        whole = looks(log)
        log.undo()
        log.undo()
        self.assert_refused(NoWind, log, "set_wind", "A", EAST)
        self.assert_refused(NoWind, log, "set_wind", "a", ())
        self.assert_refused(NoWind, log, "add_watch", "nowind", (0, 0))
        self.assert_refused(NoDeed, log, "add_watch", "east", (MOST + 1, 0))
        self.assert_refused(NoShares, log, "sail", ())
        self.assert_refused(NoWind, log, "wind_named", "nowind")
        log.again()
        log.again()
        self.assertEqual(looks(log), whole)
        log.undo()
        log.undo()
        log.undo()
        self.assert_refused(NoDeed, log, "sail", HALVES)
        log.again()
        log.again()
        log.again()
        self.assertEqual(looks(log), whole)

    def test_two_logs_know_nothing_of_one_another(self):
        one = sailed_log()
        other = Log()
        self.assertEqual(looks(other), looks(Log()))
        ahead = looks(one)
        other.set_wind("east", SQUARE)
        other.add_watch("east", (9, 9))
        other.sail(((2, (1, 1)),))
        other.undo()
        self.assertEqual(looks(one), ahead)
        self.assert_refused(NoDeed, one, "again")
        one.undo()
        self.assertEqual(other.watches(), ((SQUARE, (9, 9)),))
        other.again()
        self.assertEqual(other.place_now(), (13, 13, 1))

    def test_looks_are_the_askers_own(self):
        log = sailed_log()
        told = looks(log)
        kept = repr(told)
        self.assertTrue(nested_tuples(told))
        log.set_wind("east", SQUARE)
        log.sail(ALL_EAST)
        log.add_watch("east", (1, 1))
        for count in range(6):
            log.undo()
        self.assertEqual(repr(told), kept)

    def test_against_the_model(self):
        source = random.Random(151)
        for time in range(40):
            log = Log()
            model = Model()
            seen = {}
            for step in range(80):
                name, things = self.random_deed(source, model)
                told = []
                for one in (log, model):
                    try:
                        told.append(getattr(one, name)(*things))
                    except SailError as refused:
                        told.append(type(refused))
                self.assertEqual(told[0], told[1], (name, things))
                self.assertEqual(looks(log), model.looks())
                seen[name, told[0]] = True
        self.assertGreater(len(seen), 6)

    def random_deed(self, source, model):
        name = source.choice(("set_wind", "add_watch", "add_watch", "sail", "sail", "undo", "undo", "again", "again"))
        word = source.choice(("a", "b", "c"))
        if name == "set_wind":
            return name, (word, random_wind(source, source.choice((1, 2, 12)), source.choice((2, MOST))))
        if name == "add_watch":
            return name, (word, (source.choice((0, 1, -5, MOST, MOST + 1)), source.choice((0, 2, -7, -MOST))))
        if name != "sail":
            return name, ()
        winds, row, track, lines = model.states[-1]
        count = len(row[len(track) - 1][0]) if len(track) <= len(row) else 1
        weights = [source.randint(0, 3) for heading in range(count + (source.randrange(6) == 0))]
        return name, (weighted_shares(weights) if any(weights) else (),)


if __name__ == "__main__":
    unittest.main()

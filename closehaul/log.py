"""The log: winds by names, watches put and sailed, where the boat is, and deeds undone and done again."""

from closehaul.courses import course_end, is_course
from closehaul.errors import NoDeed, NoShares, NoWind
from closehaul.lines import shares_written, vector_written
from closehaul.places import place_added

LETTERS = "abcdefghijklmnopqrstuvwxyz"
MOST_LETTERS = 12
MOST_HEADINGS = 12
MOST_WATCHES = 12
MOST_SPEED = 1000000000


def is_word(name):
    return 1 <= len(name) <= MOST_LETTERS and all([sign in LETTERS for sign in name])


def is_speed(number):
    # Python counts True and False among the whole numbers, the document doesn't.
    if not isinstance(number, int) or isinstance(number, bool):
        return False
    return -MOST_SPEED <= number <= MOST_SPEED


def is_speed_vector(vector):
    return isinstance(vector, tuple) and len(vector) == 2 and is_speed(vector[0]) and is_speed(vector[1])


def is_wind(wind):
    if not isinstance(wind, tuple) or not 1 <= len(wind) <= MOST_HEADINGS:
        return False
    return all([is_speed_vector(heading) for heading in wind])


def deed_written(deed):
    parts = list(deed[:-1])
    if deed[0] == "wind":
        parts.extend([vector_written(heading) for heading in deed[2]])
    elif deed[0] == "watch":
        parts.append(vector_written(deed[2]))
    else:
        parts.append(shares_written(deed[1]))
    return " ".join(parts)


class Log:
    def __init__(self):
        self.winds = {}
        self.row = []
        self.places = [(0, 0, 1)]
        # Deeds are ("wind", name, wind), ("watch", name, stream) and ("sail", shares).
        self.standing = []
        self.undone = []

    def set_wind(self, name, wind):
        if not is_word(name):
            raise NoWind("a wind's name is a word of 1 to 12 letters")
        if not is_wind(wind):
            raise NoWind("this is no wind")
        self.do_newly(("wind", name, tuple([(heading[0], heading[1]) for heading in wind])))

    def add_watch(self, name, stream):
        if name not in self.winds:
            raise NoWind("no wind has this name")
        if len(self.row) == MOST_WATCHES:
            raise NoDeed("there are as many watches as there may be")
        if not is_speed_vector(stream):
            raise NoDeed("the stream is beyond the bounds")
        self.do_newly(("watch", name, (stream[0], stream[1])))

    def sail(self, shares):
        left = self.watches_left()
        if len(left) == 0:
            raise NoDeed("there is no watch to be sailed")
        if not is_course(left[:1], (shares,)):
            raise NoShares("these are no shares of the watch's wind that are 1 together")
        self.do_newly(("sail", tuple([(heading, (share[0], share[1])) for heading, share in shares])))

    def undo(self):
        if len(self.standing) == 0:
            raise NoDeed("there is nothing to be undone")
        deed = self.standing.pop()
        self.take_back(deed)
        self.undone.append(deed)

    def again(self):
        if len(self.undone) == 0:
            raise NoDeed("there is nothing to be done again")
        self.carry_out(self.undone.pop())

    def do_newly(self, deed):
        self.undone.clear()
        self.carry_out(deed)

    def carry_out(self, deed):
        if deed[0] == "wind":
            self.winds[deed[1]] = deed[2]
        elif deed[0] == "watch":
            self.row.append((self.winds[deed[1]], deed[2]))
        else:
            led = course_end(self.watches_left()[:1], (deed[1],))
            self.places.append(place_added(self.place_now(), led))
        self.standing.append(deed)

    def take_back(self, deed):
        if deed[0] == "wind":
            self.winds.pop(deed[1])
            # What the name told ahead of the deed, if anything, is what was set last of all that still stands.
            for ahead in self.standing:
                if ahead[:2] == deed[:2]:
                    self.winds[deed[1]] = ahead[2]
        elif deed[0] == "watch":
            self.row.pop()
        else:
            self.places.pop()

    def names(self):
        return tuple(sorted(self.winds))

    def wind_named(self, name):
        if name not in self.winds:
            raise NoWind("no wind has this name")
        return self.winds[name]

    def watches(self):
        return tuple(self.row)

    def watches_left(self):
        return tuple(self.row[len(self.places) - 1:])

    def place_now(self):
        return self.places[-1]

    def track(self):
        return tuple(self.places)

    def deeds(self):
        return tuple([deed_written(deed) for deed in self.standing])

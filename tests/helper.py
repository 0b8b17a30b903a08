"""What several test files ask of the answers that are told, reckoned without the program, and what they hand in."""

import itertools
import random
from fractions import Fraction
from math import gcd

GREAT = 10 ** 150 - 1


def is_number(value):
    return isinstance(value, int) and not isinstance(value, bool)


def is_tuple_of_numbers(value, length):
    return type(value) is tuple and len(value) == length and all(is_number(part) for part in value)


def is_vector(value):
    return is_tuple_of_numbers(value, 2)


def is_bearing(value):
    return is_vector(value) and value != (0, 0)


def is_fraction(value):
    return is_tuple_of_numbers(value, 2) and value[1] >= 1 and gcd(*value) == 1


def is_place(value):
    return is_tuple_of_numbers(value, 3) and value[2] >= 1 and gcd(*value) == 1


def number_of_figures(figures):
    """The number that a text of figures writes, without Python's bound on their count."""
    number = 0
    for start in range(0, len(figures), 1000):
        piece = figures[start:start + 1000]
        number = number * 10 ** len(piece) + int(piece)
    return number


def pair(value):
    return (value.numerator, value.denominator)


def place_at(east, north):
    """The place of two Fractions."""
    bottom = east.denominator * north.denominator // gcd(east.denominator, north.denominator)
    return (int(east * bottom), int(north * bottom), bottom)


def parts_of(place):
    return (Fraction(place[0], place[2]), Fraction(place[1], place[2]))


def how_far(bearing, vector):
    return bearing[0] * vector[0] + bearing[1] * vector[1]


def turn(one, other):
    return one[0] * other[1] - one[1] * other[0]


def far_of(wind, bearing):
    return max(how_far(bearing, heading) for heading in wind)


def can_be_sailed(wind, place):
    """No place can be sailed from which all headings are seen within less than half a round; every other one can."""
    ways = sorted({(heading[0] * place[2] - place[0], heading[1] * place[2] - place[1]) for heading in wind})
    if (0, 0) in ways:
        return True
    for first in ways:
        if all(turn(first, way) > 0 or (turn(first, way) == 0 and how_far(first, way) > 0) for way in ways):
            return False
    return True


def needed_headings(wind):
    """Those that can't be sailed by the others."""
    vectors = set(wind)
    return {vector for vector in vectors
            if len(vectors) == 1 or not can_be_sailed(vectors - {vector}, (vector[0], vector[1], 1))}


def is_least_round(told):
    """None twice, the least first, and each step turns to the left from the one ahead."""
    if type(told) is not tuple or not all(is_vector(vector) for vector in told):
        return False
    if len(set(told)) != len(told) or told[0] != min(told):
        return False
    count = len(told)
    steps = [(told[(k + 1) % count][0] - told[k][0], told[(k + 1) % count][1] - told[k][1]) for k in range(count)]
    return count < 3 or all(turn(steps[k - 1], steps[k]) > 0 for k in range(count))


def shuffled(wind, seed):
    headings = list(wind)
    random.Random(seed).shuffle(headings)
    return tuple(headings)


def lattice(width, height):
    return tuple((x, y) for x in range(width) for y in range(height))


def bow(count, times=1):
    """As many least headings as asked for, none between two others."""
    half = count // 2
    under = [(k * times, k * k * times) for k in range(half)]
    over = [(k * times, (half * half + k * (half - k)) * times) for k in range(count - half)]
    return tuple(under + over)


def random_wind(source, count, most):
    return tuple((source.randint(-most, most), source.randint(-most, most)) for heading in range(count))


def random_row(source, most, count):
    """Watches of few headings and any streams."""
    return tuple((random_wind(source, source.choice((1, 1, 2, 2, 3, 5)), most), random_wind(source, 1, most)[0])
                 for watch in range(count))


def small_winds():
    """Winds of small numbers, of all shapes, the same ones each time."""
    winds = [
        ((0, 0),), ((3, -2),), ((-1, 5), (-1, 5), (-1, 5)),
        ((0, 0), (4, 0)), ((2, 7), (2, -1)), ((5, 1), (-3, 4)), ((1, 1), (2, 3), (1, 1), (2, 3)),
        ((0, 0), (2, 1), (4, 2), (-2, -1), (4, 2)), ((3, 5), (3, 1), (3, 2), (3, 9)), ((6, 2), (-1, 2), (0, 2), (5, 2)),
        ((4, -4), (0, 0), (-4, 4), (1, -1)),
        ((0, 0), (4, 0), (0, 3)), ((0, 0), (0, 3), (4, 0)), ((-1, -1), (2, 0), (0, 2), (0, 0), (0, 0)),
        ((0, 0), (2, 0), (1, 0), (1, 1), (0, 2), (2, 2), (0, 1), (2, 1), (1, 2)),
        ((0, -1), (1, 0), (0, 1), (-1, 0), (0, 0)), ((1, 0), (3, 0), (4, 2), (3, 4), (1, 4), (0, 2), (2, 2), (2, 0)),
        lattice(4, 3), shuffled(lattice(5, 4), 3), ((-2, 0), (-2, 1), (-2, 2), (-2, 3), (5, 1)), bow(9), bow(12)[::-1],
    ]
    source = random.Random(21)
    for most in (1, 2, 3, 9, 10 ** 9):
        for count in (2, 3, 5, 8, 12):
            winds.append(random_wind(source, count, most))
    return winds


def great_winds():
    """Winds of numbers of up to 150 figures, some of them within a hair of a line, the same ones each time."""
    source = random.Random(22)
    winds = [
        ((GREAT, -GREAT),), ((-GREAT, GREAT), (GREAT, -GREAT)), ((-GREAT, 0), (GREAT, 0), (0, 0)),
        ((-GREAT, -GREAT), (GREAT, GREAT), (0, 0), (GREAT - 1, GREAT - 1), (1, 1)),
        ((-GREAT, -GREAT), (GREAT, GREAT), (0, 1), (GREAT - 1, GREAT), (1, 1)),
        ((-GREAT, 0), (0, 1), (GREAT, 0), (0, 0), (1, 0)), ((-GREAT, 0), (0, -1), (GREAT, 0), (0, 0), (0, 1)),
        ((-GREAT, -GREAT), (GREAT, -GREAT), (GREAT, GREAT), (-GREAT, GREAT), (0, GREAT), (1, 1 - GREAT)),
        tuple((x * 10 ** 148, y * 10 ** 148) for x, y in lattice(4, 3)), bow(12, 10 ** 147),
    ]
    for count in (2, 3, 6, 12):
        winds.append(random_wind(source, count, GREAT))
    return winds


def all_winds():
    return small_winds() + great_winds()


def bearings_of_all_sizes():
    source = random.Random(23)
    bearings = [(1, 0), (-1, 0), (0, 1), (0, -1), (3, 4), (-3, 4), (5, -1), (-2, -7), (10 ** 9, 1 - 10 ** 9)]
    most = 10 ** 600 - 1
    bearings.extend([(most, 0), (0, -most), (most, 1), (-most, most - 1)])
    for figures in (3, 60, 150, 600):
        bearings.append((source.randint(-10 ** figures, 10 ** figures), source.randint(1, 10 ** figures - 1)))
    return bearings


def places_about(wind, seed=0):
    """Places at headings, between and within them, a little off these each way, and far off."""
    source = random.Random(seed)
    vectors = sorted(set(wind))
    spots = [(Fraction(vector[0]), Fraction(vector[1])) for vector in vectors]
    for some in [source.sample(spots, min(len(spots), 2 + time % 2)) for time in range(12)]:
        weights = [source.randint(1, 5) for spot in some]
        spots.append(tuple(sum(weight * spot[k] for weight, spot in zip(weights, some)) / sum(weights)
                           for k in (0, 1)))
    if len(spots) > 16:
        spots = source.sample(spots, 16)
    little = Fraction(1, source.choice((3, 10 ** 12, 10 ** 200)))
    offs = [(0, 0), (little, 0), (-little, 0), (0, little), (0, -little), (little, -little), (-little / 2, little)]
    places = [place_at(spot[0] + off[0], spot[1] + off[1]) for spot in spots for off in offs]
    places.extend([(0, 0, 1), (10 ** 160, 3, 7), (-1, -10 ** 599, 1), (1 - 10 ** 600, 10 ** 600 - 1, 10 ** 599)])
    return places


def places_off_sides(wind, sides):
    """Places in the middle of each side, and a hair off it each way."""
    places = []
    for bearing, most in sides:
        touching = [heading for heading in wind if how_far(bearing, heading) == most]
        middle = [Fraction(min(touching)[k] + max(touching)[k], 2) for k in (0, 1)]
        for off in (Fraction(1, 10 ** 299), Fraction(0), Fraction(-1, 10 ** 299)):
            places.append(place_at(middle[0] + bearing[0] * off, middle[1] + bearing[1] * off))
    return places


def right_shares(wind, shares):
    """As [4.1] tells them, and 1 together."""
    if type(shares) is not tuple or not all(type(part) is tuple and len(part) == 2 for part in shares):
        return False
    numbers = [number for number, share in shares]
    if not all(is_number(number) and 0 <= number < len(wind) for number in numbers):
        return False
    if any(one >= other for one, other in zip(numbers, numbers[1:])):
        return False
    return all(is_fraction(share) and share[0] > 0 for number, share in shares) and summed(shares) == 1


def summed(shares):
    return sum((Fraction(*share) for number, share in shares), Fraction(0))


def led_to(wind, shares):
    """The two Fractions to which shares lead."""
    return tuple(sum((Fraction(*share) * wind[number][k] for number, share in shares), Fraction(0)) for k in (0, 1))


def weighted_shares(weights):
    """Shares that are 1 together, from weights; those of nought are left out."""
    total = sum(weights)
    return tuple((number, pair(Fraction(weight, total))) for number, weight in enumerate(weights) if weight > 0)


def short_led_to(watches, course):
    """The two Fractions to which a course leads, a short one or a whole one."""
    end = [Fraction(0), Fraction(0)]
    for (wind, stream), shares in zip(watches, course):
        for k in (0, 1):
            end[k] += led_to(wind, shares)[k] + summed(shares) * stream[k]
    return tuple(end)


def all_sums(watches):
    """Every sum of a heading of each watch, with the streams."""
    winds = [[(x + stream[0], y + stream[1]) for x, y in wind] for wind, stream in watches]
    return {(sum(x for x, y in some), sum(y for x, y in some)) for some in itertools.product(*winds)}


def is_short(watches, course):
    """As [6.1] tells it."""
    if type(course) is not tuple or len(course) > len(watches):
        return False
    for number, shares in enumerate(course):
        total = summed(shares)
        last = number == len(course) - 1
        if not (0 < total <= 1 if last else total == 1):
            return False
        wind = watches[number][0]
        # Times what they are together, any shares of [4.1] are such that are 1 together.
        if not right_shares(wind, tuple((heading, pair(Fraction(*share) / total)) for heading, share in shares)):
            return False
        if not all(is_fraction(share) for heading, share in shares):
            return False
    return True


def is_barred(watches, number, place, bearings, part):
    """[6.3] by its words, the part a Fraction."""
    for bearing in bearings:
        ahead = sum(far_of(wind, bearing) + how_far(bearing, stream) for wind, stream in watches[:number])
        wind, stream = watches[number]
        speed = far_of(wind, bearing) + how_far(bearing, stream)
        if Fraction(how_far(bearing, place), place[2]) > ahead + part * speed:
            return True
    return False


def left_by(watches, number, place, bearings):
    """What bearings leave of a watch: its ends are nought, 1, or where along a bearing the place lies just as far."""
    spots = [Fraction(0), Fraction(1)]
    for bearing in bearings:
        ahead = sum(far_of(wind, bearing) + how_far(bearing, stream) for wind, stream in watches[:number])
        wind, stream = watches[number]
        speed = far_of(wind, bearing) + how_far(bearing, stream)
        if speed != 0:
            spots.append((Fraction(how_far(bearing, place), place[2]) - ahead) / speed)
    left = [spot for spot in spots if 0 <= spot <= 1 and not is_barred(watches, number, place, bearings, spot)]
    return (pair(min(left)), pair(max(left))) if left else None


def right_bars(watches, place, bars, moment):
    """As [6.4] tells them; the moment a Fraction, None for never."""
    whole = len(watches) if moment is None else -(-moment.numerator // moment.denominator)
    if type(bars) is not tuple or len(bars) != whole:
        return False
    for number, entry in enumerate(bars):
        if type(entry) is not tuple or len(entry) not in (1, 2) or not all(is_bearing(bearing) for bearing in entry):
            return False
        left = left_by(watches, number, place, entry)
        if moment is None or number < whole - 1:
            if left is not None:
                return False
        elif left is None or Fraction(*left[0]) != moment - number:
            return False
    return True


def had_at(watches, place, moment):
    """Whether the place can be had at a moment, a Fraction, without any bearing: all sums of the headings."""
    sums = {(0, 0)}
    part = moment
    for wind, stream in watches:
        now = min(part, 1)
        part -= now
        sums = {(x + now * (east + stream[0]), y + now * (north + stream[1])) for x, y in sums for east, north in wind}
    spots = [place_at(Fraction(x), Fraction(y)) for x, y in sums]
    bottom = 1
    for spot in spots:
        bottom = bottom * spot[2] // gcd(bottom, spot[2])
    wind = [(spot[0] * bottom // spot[2], spot[1] * bottom // spot[2]) for spot in spots]
    east, north = parts_of(place)
    return can_be_sailed(wind, place_at(east * bottom, north * bottom))


def made_whole(places):
    """Vectors that lie as the places do, and by which number they are greater."""
    times = 1
    for place in places:
        times = times * place[2] // gcd(times, place[2])
    return [(place[0] * times // place[2], place[1] * times // place[2]) for place in places], times


def is_in_area(corners, place):
    """Whether a place is a share of some corners, told in any way."""
    if not corners:
        return False
    vectors, times = made_whole(corners)
    east, north = parts_of(place)
    return can_be_sailed(vectors, place_at(east * times, north * times))


def is_area_of(told, places):
    """Whether what is told are the least corners of the places, in their order."""
    if type(told) is not tuple or not all(is_place(corner) for corner in told):
        return False
    if not places or not told:
        return not places and not told
    vectors = made_whole(places + list(told))[0]
    return is_least_round(tuple(vectors[len(places):])) and set(vectors[len(places):]) == needed_headings(
        vectors[:len(places)])


def edges_of(area):
    corners = [parts_of(corner) for corner in area]
    return [(corners[k - 1], corners[k]) for k in range(len(corners))] if len(corners) > 1 else []


def crossing(one, other):
    """Where two edges cross in one place, if they do."""
    step = (one[1][0] - one[0][0], one[1][1] - one[0][1])
    way = (other[1][0] - other[0][0], other[1][1] - other[0][1])
    across = turn(step, way)
    if across == 0:
        return None
    start = (other[0][0] - one[0][0], other[0][1] - one[0][1])
    part = turn(start, way) / across
    if not (0 <= part <= 1 and 0 <= turn(start, step) / across <= 1):
        return None
    return place_at(one[0][0] + part * step[0], one[0][1] + part * step[1])


def shared_places(one, other):
    """Of the shared area at least all corners, and no place outside of it."""
    found = [corner for corner in one if is_in_area(other, corner)]
    found.extend(corner for corner in other if is_in_area(one, corner))
    crossings = [crossing(edge, way) for edge in edges_of(one) for way in edges_of(other)]
    return sorted(set(found + [place for place in crossings if place is not None]))


def places_near(area, source):
    """Places at corners, on sides and within, and a hair off these."""
    spots = [parts_of(corner) for corner in area]
    for time in range(6):
        if spots:
            some = [source.choice(spots) for spot in range(source.choice((2, 2, 3)))]
            spots.append(tuple(sum(spot[k] for spot in some) / len(some) for k in (0, 1)))
    hair = Fraction(1, source.choice((2, 10 ** 30)))
    offs = [(0, 0), (hair, 0), (-hair, 0), (0, hair), (0, -hair), (hair, hair)]
    return [place_at(spot[0] + off[0], spot[1] + off[1]) for spot in spots for off in offs] + [(0, 0, 1), (1, 2, 3)]


def random_course(source, watches, most):
    """Shares of many headings for each watch, 1 together in each."""
    return tuple(weighted_shares([source.randint(0, most) for heading in wind[1:]] + [1]) for wind, stream in watches)


def nested_tuples(value):
    """Tuples all the way down to numbers, texts, True, False and None."""
    if type(value) is tuple:
        return all(nested_tuples(part) for part in value)
    return value is None or type(value) in (int, str, bool)


def check_told(test, asked):
    """[0.3] of pairs of a function and what is handed in to it."""
    handed = repr([things for function, things in asked])
    first = [function(*things) for function, things in asked]
    test.assertTrue(nested_tuples(tuple(first)))
    test.assertEqual([function(*things) for function, things in reversed(asked)], first[::-1])
    test.assertEqual(repr([things for function, things in asked]), handed)

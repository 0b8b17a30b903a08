"""Places: triples (x, y, bottom) without a common divisor above 1, the bottom at least 1."""

from closehaul.fractions import common_divisor, lowest


def lowest_place(x, y, bottom):
    # The bottom goes first: it is above nought, so the divisor is too, and a bottom of 1 ends the search at once.
    divisor = common_divisor(common_divisor(bottom, x), y)
    return (x // divisor, y // divisor, bottom // divisor)


def place_of(east, north):
    return lowest_place(east[0] * north[1], north[0] * east[1], east[1] * north[1])


def east_of(place):
    return lowest(place[0], place[2])


def north_of(place):
    return lowest(place[1], place[2])


def place_added(one, other):
    # As in the sum of two fractions, nothing but a divisor of both bottoms can divide all three new numbers.
    shared = common_divisor(one[2], other[2])
    one_times = other[2] // shared
    other_times = one[2] // shared
    x = one[0] * one_times + other[0] * other_times
    y = one[1] * one_times + other[1] * other_times
    rest = common_divisor(common_divisor(shared, x), y)
    return (x // rest, y // rest, other_times * (other[2] // rest))


def place_taken(one, other):
    return place_added(one, (-other[0], -other[1], other[2]))


def place_times(place, fraction):
    return lowest_place(place[0] * fraction[0], place[1] * fraction[0], place[2] * fraction[1])


def along(bearing, place):
    return lowest(bearing[0] * place[0] + bearing[1] * place[1], place[2])

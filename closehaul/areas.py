"""Areas told by their least corners: what is within, how far they lie along a bearing, areas cut, shared and spread."""

from closehaul.bearings import bearings_round, dot_of, least_headings, least_round, step_of
from closehaul.fractions import common_divisor, is_before
from closehaul.joining import goes_first, steps_round
from closehaul.places import along, lowest_place, place_added


def turn_among(start, middle, end):
    # The turn of the two steps between three places, times their bottoms: whole, with the sign of the turn.
    x = middle[0] * end[2] - end[0] * middle[2]
    y = middle[1] * end[2] - end[1] * middle[2]
    return start[0] * y - start[1] * x + start[2] * (middle[0] * end[1] - middle[1] * end[0])


def rising_places(places):
    # Two fractions that are not the same lie at least 1 by both bottoms apart, so times the greatest bottom twice they
    # are rounded down to numbers that are not the same either.
    apart = sorted(set(places))
    great = max([place[2] for place in apart], default=1)
    times = great * great
    return sorted(apart, key=lambda place: (place[0] * times // place[2], place[1] * times // place[2]))


def area_of(places):
    return least_round(rising_places(places), turn_among)


def step_among(start, end):
    # Which way one place lies from another, in the lowest numbers.
    east = end[0] * start[2] - start[0] * end[2]
    north = end[1] * start[2] - start[1] * end[2]
    divisor = common_divisor(east, north)
    return (east // divisor, north // divisor)


def area_sides(area):
    return [(bearing, along(bearing, corner)) for bearing, corner in bearings_round(area, step_among)]


def beyond_by(place, bearing, most):
    # By how much the place lies farther than the most, times both bottoms.
    return dot_of(bearing, place) * most[1] - most[0] * place[2]


def is_within(area, place):
    return area_of(area + (place,)) == area


def area_farthest(area, bearing):
    most = None
    for corner in area:
        far = along(bearing, corner)
        if most is None or is_before(most, far):
            most = far
    return most


def place_moved(place, vector):
    return place_added(place, (vector[0], vector[1], 1))


def crossing_of(one, one_beyond, other, other_beyond):
    # The one lies within and the other one beyond, so the bottom is above nought.
    x = one[0] * other_beyond - other[0] * one_beyond
    y = one[1] * other_beyond - other[1] * one_beyond
    return lowest_place(x, y, one[2] * other_beyond - other[2] * one_beyond)


def places_cut(corners, bearing, most):
    # The corners go round, and so do those that are left.
    left = []
    for number in range(len(corners)):
        ahead = corners[number - 1]
        corner = corners[number]
        ahead_beyond = beyond_by(ahead, bearing, most)
        beyond = beyond_by(corner, bearing, most)
        if ahead_beyond < 0 and beyond > 0:
            left.append(crossing_of(ahead, ahead_beyond, corner, beyond))
        if ahead_beyond > 0 and beyond < 0:
            left.append(crossing_of(corner, beyond, ahead, ahead_beyond))
        if beyond <= 0:
            left.append(corner)
    return left


def area_cut(area, bearing, most):
    return area_of(places_cut(area, bearing, most))


def area_shared(one, other):
    if len(other) == 0:
        return ()
    corners = one
    for bearing, most in area_sides(other):
        corners = places_cut(corners, bearing, most)
    return area_of(corners)


def area_spread(area, wind):
    if len(area) == 0:
        return ()
    headings = least_headings(wind)
    steps = steps_round(area, step_among)
    others = steps_round(headings, step_of)
    # As with winds joined, round the spread area go just the steps that go round the two.
    corner = 0
    heading = 0
    spread = [place_moved(area[0], headings[0])]
    while corner < len(steps) or heading < len(others):
        if heading == len(others) or (corner < len(steps) and goes_first(steps[corner], others[heading])):
            corner = corner + 1
        else:
            heading = heading + 1
        spread.append(place_moved(area[corner % len(area)], headings[heading % len(headings)]))
    return area_of(spread)

"""Winds and bearings: how far a wind leads, its least headings, and its sides."""

EVERY_WAY = ((1, 0), (0, 1), (-1, 0), (0, -1))


def turn_of(one, other):
    return one[0] * other[1] - one[1] * other[0]


def dot_of(one, other):
    return one[0] * other[0] + one[1] * other[1]


def vector_added(one, other):
    return (one[0] + other[0], one[1] + other[1])


def step_of(start, end):
    return (end[0] - start[0], end[1] - start[1])


def right_of(step):
    return (step[1], -step[0])


def farthest(wind, bearing):
    return max([dot_of(heading, bearing) for heading in wind])


def turn_by(start, middle, end):
    return turn_of(step_of(start, middle), step_of(middle, end))


def chain_of(spots, turn):
    # A spot from which the way on doesn't turn to the left is a share of the two beside it, or lies within.
    kept = []
    for spot in spots:
        while len(kept) > 1 and turn(kept[-2], kept[-1], spot) <= 0:
            kept.pop()
        kept.append(spot)
    return kept


def least_round(rising, turn):
    if len(rising) < 2:
        return tuple(rising)
    there = chain_of(rising, turn)
    back = chain_of(list(reversed(rising)), turn)
    # Each chain ends where the other one begins, so its last spot is left to that one.
    return tuple(there[:-1] + back[:-1])


def least_headings(wind):
    return least_round(sorted(set(wind)), turn_by)


def bearings_round(corners, step_between):
    if len(corners) == 1:
        return [(bearing, corners[0]) for bearing in EVERY_WAY]
    found = []
    for number in range(len(corners)):
        corner = corners[number]
        step = step_between(corners[number - 1], corner)
        # Going round against the sun's way one has all of them to the left, so nothing lies farther to the right.
        found.append((right_of(step), corner))
        if len(corners) == 2:
            # The two right hands hold a place on the line alone; its ends need a bearing each.
            found.append((step, corner))
    return found


def sides_of(wind):
    sides = bearings_round(least_headings(wind), step_of)
    return tuple([(bearing, dot_of(bearing, heading)) for bearing, heading in sides])


def bearing_beyond(one, other):
    for bearing, most in sides_of(one):
        if farthest(other, bearing) > most:
            return bearing
    return None


def parting_bearing(one, other):
    ones = least_headings(one)
    others = least_headings(other)
    if ones == others:
        return None
    # Winds that aren't the same part where one of them leads beyond a side of the other.
    bearing = bearing_beyond(ones, others)
    if bearing is None:
        return bearing_beyond(others, ones)
    return bearing

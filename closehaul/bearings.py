"""Winds and bearings: how far a wind leads, its least headings, and its sides."""

EVERY_WAY = ((1, 0), (0, 1), (-1, 0), (0, -1))


def turn_of(one, other):
    return one[0] * other[1] - one[1] * other[0]


def dot_of(one, other):
    return one[0] * other[0] + one[1] * other[1]


def vector_added(one, other):
    return (one[0] + other[0], one[1] + other[1])


def step_of(start, end):
    return (end[0] - start[0], end[1] - start[1])


def right_of(step):
    return (step[1], -step[0])


def farthest(wind, bearing):
    return max([dot_of(heading, bearing) for heading in wind])


def chain_of(vectors):
    # A vector from which the way on doesn't turn to the left is a share of the two beside it, or lies within.
    kept = []
    for vector in vectors:
        while len(kept) > 1 and turn_of(step_of(kept[-2], kept[-1]), step_of(kept[-1], vector)) <= 0:
            kept.pop()
        kept.append(vector)
    return kept


def least_headings(wind):
    rising = sorted(set(wind))
    if len(rising) == 1:
        return (rising[0],)
    there = chain_of(rising)
    back = chain_of(list(reversed(rising)))
    # Each chain ends where the other one begins, so its last vector is left to that one.
    return tuple(there[:-1] + back[:-1])


def sides_of(wind):
    headings = least_headings(wind)
    if len(headings) == 1:
        return tuple([(bearing, dot_of(bearing, headings[0])) for bearing in EVERY_WAY])
    sides = []
    for number in range(len(headings)):
        heading = headings[number]
        step = step_of(headings[number - 1], heading)
        # Going round against the sun's way one has all of the wind to the left, so nothing lies farther to the right.
        sides.append((right_of(step), dot_of(right_of(step), heading)))
        if len(headings) == 2:
            # The two right hands hold a place on the line alone; its ends need a bearing each.
            sides.append((step, dot_of(step, heading)))
    return tuple(sides)


def bearing_beyond(one, other):
    for bearing, most in sides_of(one):
        if farthest(other, bearing) > most:
            return bearing
    return None


def parting_bearing(one, other):
    ones = least_headings(one)
    others = least_headings(other)
    if ones == others:
        return None
    # Winds that aren't the same part where one of them leads beyond a side of the other.
    bearing = bearing_beyond(ones, others)
    if bearing is None:
        return bearing_beyond(others, ones)
    return bearing

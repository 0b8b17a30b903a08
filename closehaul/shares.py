"""Shares of a wind: where they lead, shares that lead to a place or a bearing that bars it, and their examiner."""

from closehaul.bearings import dot_of, farthest, least_headings, sides_of, step_of, turn_of
from closehaul.errors import NoShares
from closehaul.fractions import added, common_divisor, lowest
from closehaul.places import place_added, place_times


def is_share(share):
    return share[0] > 0 and share[1] > 0 and common_divisor(share[0], share[1]) == 1


def are_shares(wind, shares):
    ahead = -1
    for heading, share in shares:
        if heading <= ahead or heading >= len(wind) or not is_share(share):
            return False
        ahead = heading
    return True


def shares_sum(shares):
    total = (0, 1)
    for heading, share in shares:
        total = added(total, share)
    return total


def shares_end(wind, shares):
    if not are_shares(wind, shares):
        raise NoShares("these are no shares of the wind")
    end = (0, 0, 1)
    for heading, share in shares:
        vector = wind[heading]
        end = place_added(end, place_times((vector[0], vector[1], 1), share))
    return end


def lies_beyond(place, bearing, most):
    # The place's bottom is above nought, so both sides may be multiplied by it, and nothing need be made lowest.
    return bearing[0] * place[0] + bearing[1] * place[1] > most * place[2]


def barring_bearing(headings, place):
    for bearing, most in sides_of(headings):
        if lies_beyond(place, bearing, most):
            return bearing
    return None


def way_to(vector, place):
    # The step to the place times the place's bottom, so that it is whole.
    return (place[0] - vector[0] * place[2], place[1] - vector[1] * place[2])


def line_parts(corners, place):
    step = step_of(corners[0], corners[1])
    whole = dot_of(step, step) * place[2]
    second = dot_of(way_to(corners[0], place), step)
    return (whole - second, second)


def triangle_parts(corners, place):
    one = step_of(corners[0], corners[1])
    other = step_of(corners[0], corners[2])
    way = way_to(corners[0], place)
    whole = turn_of(one, other) * place[2]
    second = turn_of(way, other)
    third = turn_of(one, way)
    return (whole - second - third, second, third)


def triangle_around(headings, place):
    # The triangles that fan out from the first heading fill all that can be sailed, so one of them holds the place.
    number = 2
    corners = headings[:3]
    while min(triangle_parts(corners, place)) < 0:
        number = number + 1
        corners = (headings[0], headings[number - 1], headings[number])
    return corners


def shares_of_parts(wind, corners, parts):
    whole = sum(parts)
    shares = [(wind.index(corner), lowest(part, whole)) for corner, part in zip(corners, parts) if part > 0]
    return tuple(sorted(shares))


def shares_to(wind, place):
    headings = least_headings(wind)
    bearing = barring_bearing(headings, place)
    if bearing is not None:
        return ("barred", bearing)
    corners = headings
    parts = (1,)
    if len(headings) == 2:
        parts = line_parts(corners, place)
    if len(headings) > 2:
        corners = triangle_around(headings, place)
        parts = triangle_parts(corners, place)
    return ("sailed", shares_of_parts(wind, corners, parts))


def shares_stand(wind, place, answer):
    if answer[0] == "sailed":
        shares = answer[1]
        return are_shares(wind, shares) and shares_sum(shares) == (1, 1) and shares_end(wind, shares) == place
    if answer[0] == "barred":
        # Nothing is farther than nought along (0, 0), so that bars nothing without being asked for.
        return lies_beyond(place, answer[1], farthest(wind, answer[1]))
    return False

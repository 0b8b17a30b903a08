"""Courses for watches: where they lead, all that they reach, a course to a place or a bar, and their examiner."""

from closehaul.bearings import dot_of, farthest, right_of, step_of
from closehaul.errors import NoCourse
from closehaul.fractions import added
from closehaul.joining import drift_of, joined_all
from closehaul.places import place_added
from closehaul.shares import are_shares, lies_beyond, shares_end, shares_sum, shares_to


def reach_of(watches):
    return joined_all([drift_of(watch) for watch in watches])


def farthest_by(watches, bearing):
    return sum([farthest(wind, bearing) + dot_of(stream, bearing) for wind, stream in watches])


def is_course(watches, course):
    if len(course) != len(watches):
        return False
    for watch, shares in zip(watches, course):
        if not are_shares(watch[0], shares) or shares_sum(shares) != (1, 1):
            return False
    return True


def course_end(watches, course):
    if not is_course(watches, course):
        raise NoCourse("this is no course for the watches")
    end = (0, 0, 1)
    for watch, shares in zip(watches, course):
        stream = watch[1]
        led = place_added(shares_end(watch[0], shares), (stream[0], stream[1], 1))
        end = place_added(end, led)
    return end


def heading_at(wind, step):
    # The heading of the reach to which a step round it leads is, of all that lies farthest to the step's right, the
    # farthest along the step. A sum is so just where each of its parts is, so this finds the part of each wind.
    side = right_of(step)
    ways = [(dot_of(heading, side), dot_of(heading, step)) for heading in wind]
    return ways.index(max(ways))


def shares_in_watch(wind, reach, shares):
    found = {}
    for number, share in shares:
        heading = heading_at(wind, step_of(reach[number - 1], reach[number]))
        found[heading] = added(found.get(heading, (0, 1)), share)
    return tuple(sorted(found.items()))


def course_to(watches, place):
    reach = reach_of(watches)
    answer = shares_to(reach, place)
    if answer[0] == "barred":
        return answer
    return ("course", tuple([shares_in_watch(watch[0], reach, answer[1]) for watch in watches]))


def course_stands(watches, place, answer):
    if answer[0] == "course":
        return is_course(watches, answer[1]) and course_end(watches, answer[1]) == place
    if answer[0] == "barred":
        return lies_beyond(place, answer[1], farthest_by(watches, answer[1]))
    return False

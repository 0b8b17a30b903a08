"""Short courses, and the soonest moment at which a place can be had, with what bars all that is ahead of it."""

from closehaul.bearings import dot_of, farthest, sides_of
from closehaul.courses import is_course, shares_in_watch
from closehaul.errors import NoCourse
from closehaul.fractions import added, is_before, lowest, multiplied
from closehaul.joining import drift_of, joined
from closehaul.places import place_added, place_times
from closehaul.shares import are_shares, shares_end, shares_sum, shares_to


def short_moment(course):
    moment = (0, 1)
    for shares in course:
        moment = added(moment, shares_sum(shares))
    return moment


def is_short_course(watches, course):
    if len(course) == 0:
        return True
    if len(course) > len(watches):
        return False
    last = len(course) - 1
    shares = course[last]
    if len(shares) == 0 or not are_shares(watches[last][0], shares) or is_before((1, 1), shares_sum(shares)):
        return False
    return is_course(watches[:last], course[:last])


def short_end(watches, course):
    if not is_short_course(watches, course):
        raise NoCourse("this is no short course for the watches")
    end = (0, 0, 1)
    for watch, shares in zip(watches, course):
        stream = watch[1]
        carried = place_times((stream[0], stream[1], 1), shares_sum(shares))
        end = place_added(end, place_added(shares_end(watch[0], shares), carried))
    return end


def limits_of(ahead, drift, place):
    # A fraction of the watch is barred along a bearing where the gap is greater than the fraction times the gain; both
    # are times the place's bottom, so that they are whole. Round what can be had at a fraction go just the sides of the
    # reach ahead and of the drift, so no other bearing is asked for.
    limits = []
    for bearing, most in sides_of(ahead) + sides_of(drift):
        gap = dot_of(bearing, place) - place[2] * farthest(ahead, bearing)
        limits.append((bearing, gap, place[2] * farthest(drift, bearing)))
    return limits


def longest_from_begin(limits):
    # Asked only where no limit bars the whole watch, so whatever bars its beginning has a gain above nought.
    found = None
    for limit in limits:
        if limit[1] > 0 and (found is None or limit[1] * found[2] > found[1] * limit[2]):
            found = limit
    return found


def longest_to_end(limits):
    # Asked only where no limit bars the whole watch, so whatever bars its end has a gain below nought.
    found = None
    for limit in limits:
        if limit[1] > limit[2] and (found is None or limit[1] * found[2] < found[1] * limit[2]):
            found = limit
    return found


def watch_barred(limits):
    # What a bearing doesn't bar is all up to, or all from, some fraction. So one bars the whole watch that bars its
    # beginning and its end, and else two do where what they leave doesn't meet.
    for bearing, gap, gain in limits:
        if gap > 0 and gap > gain:
            return (bearing,)
    first = longest_from_begin(limits)
    last = longest_to_end(limits)
    if last is not None and first[1] * last[2] < last[1] * first[2]:
        return (first[0], last[0])
    return None


def wind_times(wind, number):
    return tuple([(heading[0] * number, heading[1] * number) for heading in wind])


def short_course_to(watches, ahead, part, place):
    # All that can be had when the part of the last watch has gone by, times the part's bottom, so that it is a wind.
    drift = drift_of(watches[-1])
    reach = joined(wind_times(ahead, part[1]), wind_times(drift, part[0]))
    shares = shares_to(reach, place_times(place, (part[1], 1)))[1]
    course = [shares_in_watch(watch[0], reach, shares) for watch in watches]
    last = course.pop()
    course.append(tuple([(heading, multiplied(share, part)) for heading, share in last]))
    return tuple(course)


def soonest(watches, place):
    if place == (0, 0, 1):
        return ("at", (0, 1), (), ())
    bars = []
    ahead = ((0, 0),)
    for number in range(len(watches)):
        drift = drift_of(watches[number])
        limits = limits_of(ahead, drift, place)
        barred = watch_barred(limits)
        if barred is None:
            # The place can't be had when the watch begins, so there is a limit that bars its beginning.
            limit = longest_from_begin(limits)
            part = lowest(limit[1], limit[2])
            course = short_course_to(watches[:number + 1], ahead, part, place)
            return ("at", added((number, 1), part), course, tuple(bars) + ((limit[0],),))
        bars.append(barred)
        ahead = joined(ahead, drift)
    return ("never", tuple(bars))

"""Buoys passed in order at ends of watches: the table of buoys, and the least passing with its course."""

from closehaul.courses import course_to, reach_of
from closehaul.places import place_taken
from closehaul.shares import barring_bearing


def legs_of(buoys):
    starts = ((0, 0, 1),) + buoys
    return [place_taken(buoy, start) for start, buoy in zip(starts, buoys)]


def reaches_between(watches):
    reaches = {}
    for begin in range(len(watches) + 1):
        for end in range(begin, len(watches) + 1):
            reaches[(begin, end)] = reach_of(watches[begin:end])
    return reaches


def passings_behind(passings, reaches, leg):
    # With the number of the last buoy given, the least passing has the least one of the buoys ahead of it.
    found = {}
    for between, reach in reaches.items():
        if between[0] in passings and barring_bearing(reach, leg) is None:
            numbers = passings[between[0]] + (between[1],)
            found[between[1]] = min(numbers, found.get(between[1], numbers))
    return found


def least_passings(watches, buoys):
    """For none of the buoys, the first one, the first two and so on: the least passing that ends with each number."""
    reaches = reaches_between(watches)
    rows = [{0: ()}]
    for leg in legs_of(buoys):
        rows.append(passings_behind(rows[-1], reaches, leg))
    return rows


def buoy_table(watches, buoys):
    numbers = list(range(len(watches) + 1))
    return tuple([tuple([number in row for number in numbers]) for row in least_passings(watches, buoys)[1:]])


def course_by(watches, buoys, numbers):
    course = ()
    begin = 0
    for leg, end in zip(legs_of(buoys), numbers):
        course = course + course_to(watches[begin:end], leg)[1]
        begin = end
    return course


def passing(watches, buoys):
    last = least_passings(watches, buoys)[-1]
    if len(last) == 0:
        return None
    numbers = min(last.values())
    return (numbers, course_by(watches, buoys, numbers))

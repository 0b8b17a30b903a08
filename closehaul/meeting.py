"""The chase of two boats, and where and when they meet soonest."""

from closehaul.bearings import step_of
from closehaul.courses import shares_in_watch
from closehaul.joining import joined, turned_back
from closehaul.soonest import short_end, soonest


def chase_of(watches, others):
    chase = []
    for watch, other in zip(watches, others):
        chase.append((joined(watch[0], turned_back(other[0])), step_of(other[1], watch[1])))
    return tuple(chase)


def course_in_winds(winds, chase, course):
    # A corner of joined winds is a sum of one corner of each, so the shares of the chase are shares of each boat.
    found = []
    for wind, watch, shares in zip(winds, chase, course):
        found.append(shares_in_watch(wind, watch[0], shares))
    return tuple(found)


def headings_about(wind):
    # Not by least headings, since the numbers of the headings are to stay.
    return tuple([(-heading[0], -heading[1]) for heading in wind])


def meeting(watches, others, place):
    chase = chase_of(watches, others)
    answer = soonest(chase, place)
    if answer[0] == "never":
        return answer
    course = course_in_winds([watch[0] for watch in watches], chase, answer[2])
    other = course_in_winds([headings_about(watch[0]) for watch in others], chase, answer[2])
    return ("at", answer[1], course, other, short_end(watches, course), answer[3])

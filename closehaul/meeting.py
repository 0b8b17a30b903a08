"""The chase of two boats, and where and when they meet soonest."""

from closehaul.bearings import step_of
from closehaul.courses import shares_in_watch
from closehaul.joining import joined, turned_back
from closehaul.soonest import short_end, soonest


def chase_of(watches, others):
    chase = []
    for watch, other in zip(watches, others):
        chase.append((joined(watch[0], turned_back(other[0])), step_of(other[1], watch[1])))
    return tuple(chase)


def course_of_one(watches, chase, course):
    # A corner of joined winds is a sum of one corner of each, so the shares of the chase are shares of each boat.
    found = []
    for watch, chased, shares in zip(watches, chase, course):
        found.append(shares_in_watch(watch[0], chased[0], shares))
    return tuple(found)


def course_of_other(others, chase, course):
    # The headings turned about one by one, since their numbers are to stay.
    about = [(tuple([(-heading[0], -heading[1]) for heading in other[0]]), other[1]) for other in others]
    return course_of_one(about, chase, course)


def meeting(watches, others, place):
    chase = chase_of(watches, others)
    answer = soonest(chase, place)
    if answer[0] == "never":
        return answer
    course = course_of_one(watches, chase, answer[2])
    other = course_of_other(others, chase, answer[2])
    return ("at", answer[1], course, other, short_end(watches, course), answer[3])

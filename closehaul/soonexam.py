"""The examiner of answers on the soonest moment: what bearings bar in a watch, and whether an answer stands."""

from closehaul.courses import farthest_by
from closehaul.fractions import divided, is_before, taken
from closehaul.places import along
from closehaul.shares import shares_sum
from closehaul.soonest import is_short_course, short_end, short_moment


def barred_from(watches, number, place, bearings):
    least = (0, 1)
    greatest = (1, 1)
    for bearing in bearings:
        gap = taken(along(bearing, place), (farthest_by(watches[:number], bearing), 1))
        gain = farthest_by(watches[number:number + 1], bearing)
        if gain == 0:
            if gap[0] > 0:
                return None
        else:
            bound = divided(gap, (gain, 1))
            if gain > 0 and is_before(least, bound):
                least = bound
            if gain < 0 and is_before(bound, greatest):
                greatest = bound
    if is_before(greatest, least):
        return None
    return (least, greatest)


def all_barred(watches, place, bars):
    for number, entry in enumerate(bars):
        # An entry without a bearing bars nothing, so it needs no look of its own.
        if (0, 0) in entry or barred_from(watches, number, place, entry) is not None:
            return False
    return True


def never_stands(watches, place, bars):
    # The start is had at the moment nought, which no entry speaks of where there is no watch.
    return place != (0, 0, 1) and len(bars) == len(watches) and all_barred(watches, place, bars)


def moment_stands(watches, place, moment, course):
    return is_short_course(watches, course) and short_moment(course) == moment and short_end(watches, course) == place


def at_stands(watches, place, course, bars):
    if len(bars) != len(course):
        return False
    if len(bars) == 0:
        return True
    last = len(bars) - 1
    if (0, 0) in bars[last] or not all_barred(watches, place, bars[:last]):
        return False
    # The course leads there when its part of the last watch has gone by, so at least that part is left.
    left = barred_from(watches, last, place, bars[last])
    return left[0] == shares_sum(course[last])


def soonest_stands(watches, place, answer):
    if answer[0] == "at" and len(answer) == 4:
        if not moment_stands(watches, place, answer[1], answer[2]):
            return False
        return at_stands(watches, place, answer[2], answer[3])
    if answer[0] == "never" and len(answer) == 2:
        return never_stands(watches, place, answer[1])
    return False

"""Winds joined, the drift of a watch, and winds turned back, each told by its least headings."""

from closehaul.bearings import least_headings, step_of, turn_of, vector_added


def steps_round(corners, step_between):
    if len(corners) == 1:
        return []
    behind = corners[1:] + corners[:1]
    return [step_between(start, end) for start, end in zip(corners, behind)]


def goes_first(one, other):
    # From the least corner on all steps rise, as pairs are compared, until the greatest one; then all fall. Within
    # such a half no two steps are half a round apart, so there the turn tells which one comes first.
    one_rises = one > (0, 0)
    other_rises = other > (0, 0)
    if one_rises != other_rises:
        return one_rises
    return turn_of(one, other) > 0


def steps_merged(ones, others):
    steps = []
    taken = 0
    for other in others:
        while taken < len(ones) and goes_first(ones[taken], other):
            steps.append(ones[taken])
            taken = taken + 1
        steps.append(other)
    return steps + ones[taken:]


def joined(one, other):
    # Round the joined wind go just the steps that go round the two, so there is no need of all sums of headings.
    ones = least_headings(one)
    others = least_headings(other)
    heading = vector_added(ones[0], others[0])
    headings = [heading]
    for step in steps_merged(steps_round(ones, step_of), steps_round(others, step_of)):
        heading = vector_added(heading, step)
        headings.append(heading)
    return least_headings(headings)


def joined_all(winds):
    total = ((0, 0),)
    for wind in winds:
        total = joined(total, wind)
    return total


def drift_of(watch):
    return least_headings([vector_added(heading, watch[1]) for heading in watch[0]])


def turned_back(wind):
    return least_headings([(-heading[0], -heading[1]) for heading in wind])

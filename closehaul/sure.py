"""Forecasts: the areas from which a harbour is sure, shares into it, and the watch and bearing that bar it."""

from closehaul.areas import area_farthest, area_of, area_shared, area_sides, area_spread
from closehaul.bearings import farthest, sides_of
from closehaul.fractions import is_before, taken
from closehaul.joining import drift_of, turned_back
from closehaul.places import along, place_taken
from closehaul.shares import shares_to


def sure_ahead(forecast, area):
    drawn = [area_spread(area, turned_back(drift_of(watch))) for watch in forecast]
    sure = drawn[0]
    for other in drawn[1:]:
        sure = area_shared(sure, other)
    return sure


def sure_areas(forecasts, harbour):
    areas = [area_of(harbour)]
    for forecast in reversed(forecasts):
        areas.append(sure_ahead(forecast, areas[-1]))
    return tuple(reversed(areas))


def sure_shares(watch, area, place):
    both = area_shared(area, area_spread((place,), drift_of(watch)))
    if len(both) == 0:
        return None
    stream = watch[1]
    way = place_taken(place_taken(both[0], place), (stream[0], stream[1], 1))
    return shares_to(watch[0], way)[1]


def bearing_away(watch, area, place):
    if len(area) == 0:
        return (1, 0)
    # What the watch leads to and the area part, if at all, along a bearing of a side of the one or of the other; turned
    # back, the drift tells how near the watch can lead along a bearing.
    back = turned_back(drift_of(watch))
    sides = [(bearing, area_farthest(area, bearing)) for bearing, most in sides_of(back)]
    for bearing, most in sides + area_sides(area):
        nearest = taken(along(bearing, place), (farthest(back, bearing), 1))
        if is_before(most, nearest):
            return bearing
    return None


def barring_watch(forecast, area, place):
    for number, watch in enumerate(forecast):
        bearing = bearing_away(watch, area, place)
        if bearing is not None:
            return (number, bearing)
    return None

import importlib
import inspect
import unittest

FUNCTIONS = {
    "fractions": ("lowest(top, bottom)", "added(one, other)", "taken(one, other)", "multiplied(one, other)",
                  "divided(one, other)", "is_before(one, other)", "fraction_written(fraction)", "fraction_read(text)"),
    "places": ("place_of(east, north)", "east_of(place)", "north_of(place)", "place_added(one, other)",
               "place_taken(one, other)", "place_times(place, fraction)", "along(bearing, place)"),
    "bearings": ("turn_of(one, other)", "dot_of(one, other)", "farthest(wind, bearing)", "least_headings(wind)",
                 "parting_bearing(one, other)", "sides_of(wind)"),
    "joining": ("joined(one, other)", "joined_all(winds)", "drift_of(watch)", "turned_back(wind)"),
    "shares": ("shares_end(wind, shares)", "shares_sum(shares)", "shares_to(wind, place)",
               "shares_stand(wind, place, answer)"),
    "courses": ("reach_of(watches)", "farthest_by(watches, bearing)", "course_end(watches, course)",
                "course_to(watches, place)", "course_stands(watches, place, answer)"),
    "soonest": ("short_moment(course)", "short_end(watches, course)", "soonest(watches, place)"),
    "soonexam": ("barred_from(watches, number, place, bearings)", "soonest_stands(watches, place, answer)"),
    "meeting": ("chase_of(watches, others)", "meeting(watches, others, place)"),
    "areas": ("area_of(places)", "is_within(area, place)", "area_farthest(area, bearing)",
              "area_cut(area, bearing, most)", "area_shared(one, other)", "area_spread(area, wind)"),
    "buoys": ("buoy_table(watches, buoys)", "passing(watches, buoys)"),
    "sure": ("sure_areas(forecasts, harbour)", "sure_shares(watch, area, place)",
             "barring_watch(forecast, area, place)"),
    "talk": ("line_said(log, line)", "log_of(lines)"),
}
LOG_METHODS = ("set_wind(self, name, wind)", "add_watch(self, name, stream)", "sail(self, shares)", "undo(self)",
               "again(self)", "names(self)", "wind_named(self, name)", "watches(self)", "watches_left(self)",
               "place_now(self)", "track(self)", "deeds(self)")


class Interface(unittest.TestCase):
    def test_every_function_is_there_with_its_arguments(self):
        for name, functions in FUNCTIONS.items():
            module = importlib.import_module("closehaul." + name)
            for written in functions:
                with self.subTest(module=name, function=written):
                    function = getattr(module, written.partition("(")[0])
                    self.assertEqual(function.__name__ + str(inspect.signature(function)), written)

    def test_the_log_has_its_methods(self):
        log = importlib.import_module("closehaul.log").Log
        self.assertEqual(str(inspect.signature(log)), "()")
        for written in LOG_METHODS:
            with self.subTest(method=written):
                method = getattr(log, written.partition("(")[0])
                self.assertEqual(method.__name__ + str(inspect.signature(method)), written)


if __name__ == "__main__":
    unittest.main()

import importlib
import inspect
import unittest

FUNCTIONS = {
    "fractions": ("lowest(top, bottom)", "added(one, other)", "taken(one, other)", "multiplied(one, other)",
                  "divided(one, other)", "is_before(one, other)", "fraction_written(fraction)", "fraction_read(text)"),
    "places": ("place_of(east, north)", "east_of(place)", "north_of(place)", "place_added(one, other)",
               "place_taken(one, other)", "place_times(place, fraction)", "along(bearing, place)"),
    "bearings": ("turn_of(one, other)", "dot_of(one, other)", "farthest(wind, bearing)", "least_headings(wind)",
                 "parting_bearing(one, other)", "sides_of(wind)"),
    "joining": ("joined(one, other)", "joined_all(winds)", "drift_of(watch)", "turned_back(wind)"),
    "shares": ("shares_end(wind, shares)", "shares_sum(shares)", "shares_to(wind, place)",
               "shares_stand(wind, place, answer)"),
    "courses": ("reach_of(watches)", "farthest_by(watches, bearing)", "course_end(watches, course)",
                "course_to(watches, place)", "course_stands(watches, place, answer)"),
    "soonest": ("short_moment(course)", "short_end(watches, course)", "soonest(watches, place)"),
    "soonexam": ("barred_from(watches, number, place, bearings)", "soonest_stands(watches, place, answer)"),
    "meeting": ("chase_of(watches, others)", "meeting(watches, others, place)"),
    "areas": ("area_of(places)", "is_within(area, place)", "area_farthest(area, bearing)",
              "area_cut(area, bearing, most)", "area_shared(one, other)", "area_spread(area, wind)"),
}


class Interface(unittest.TestCase):
    def test_every_function_is_there_with_its_arguments(self):
        for name, functions in FUNCTIONS.items():
            module = importlib.import_module("closehaul." + name)
            for written in functions:
                with self.subTest(module=name, function=written):
                    function = getattr(module, written.partition("(")[0])
                    self.assertEqual(function.__name__ + str(inspect.signature(function)), written)


if __name__ == "__main__":
    unittest.main()

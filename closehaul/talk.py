"""Lines said to a log, each answered by a text."""

from closehaul.buoys import passing
from closehaul.courses import course_to, reach_of
from closehaul.errors import NoText
from closehaul.fractions import fraction_written, number_written
from closehaul.lines import name_read, place_read, place_written, share_read, shares_written
from closehaul.lines import vector_read, vector_written
from closehaul.log import Log
from closehaul.places import place_taken
from closehaul.soonest import soonest

MOST_BUOYS = 8


def count_held(words, least, most):
    if len(words) < least or (most is not None and len(words) > most):
        raise NoText("the line has words too few or too many")


def wind_said(log, words):
    count_held(words, 2, None)
    name = name_read(words[0])
    log.set_wind(name, tuple([vector_read(word) for word in words[1:]]))
    return "done"


def watch_said(log, words):
    count_held(words, 2, 2)
    name = name_read(words[0])
    log.add_watch(name, vector_read(words[1]))
    return "done"


def sail_said(log, words):
    count_held(words, 1, None)
    log.sail(tuple([share_read(word) for word in words]))
    return "done"


def undo_said(log, words):
    count_held(words, 0, 0)
    log.undo()
    return "done"


def again_said(log, words):
    count_held(words, 0, 0)
    log.again()
    return "done"


def place_said(log, words):
    count_held(words, 0, 0)
    return place_written(log.place_now())


def track_said(log, words):
    count_held(words, 0, 0)
    return " ".join([place_written(place) for place in log.track()])


def deeds_said(log, words):
    count_held(words, 0, 0)
    return "\n".join(log.deeds())


def reach_said(log, words):
    count_held(words, 0, 0)
    return " ".join([vector_written(heading) for heading in reach_of(log.watches_left())])


def way_read(log, word):
    # The earlier stages' functions sail from the start, the boat from where it is.
    return place_taken(place_read(word), log.place_now())


def course_lines(first, course):
    return "\n".join([first] + [shares_written(shares) for shares in course])


def course_said(log, words):
    count_held(words, 1, 1)
    answer = course_to(log.watches_left(), way_read(log, words[0]))
    if answer[0] == "barred":
        bearing = vector_written(answer[1])
        return f"barred {bearing}"
    return course_lines("sailed", answer[1])


def soonest_said(log, words):
    count_held(words, 1, 1)
    answer = soonest(log.watches_left(), way_read(log, words[0]))
    if answer[0] == "never":
        return "never"
    moment = fraction_written(answer[1])
    return course_lines(f"at {moment}", answer[2])


def buoys_said(log, words):
    count_held(words, 0, MOST_BUOYS)
    answer = passing(log.watches_left(), tuple([way_read(log, word) for word in words]))
    if answer is None:
        return "none"
    numbers = [number_written(number) for number in answer[0]]
    return course_lines(" ".join(["passed"] + numbers), answer[1])


SAID = {
    "wind": wind_said, "watch": watch_said, "sail": sail_said, "undo": undo_said, "again": again_said,
    "place": place_said, "track": track_said, "deeds": deeds_said, "reach": reach_said, "course": course_said,
    "soonest": soonest_said, "buoys": buoys_said,
}


def line_said(log, line):
    words = line.split(" ")
    if words[0] not in SAID:
        raise NoText("no line begins with this word")
    said = SAID[words[0]]
    return said(log, words[1:])


def log_of(lines):
    log = Log()
    for line in lines:
        line_said(log, line)
    return log

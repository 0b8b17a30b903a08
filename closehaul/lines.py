"""The parts of lines, written and read: vectors, places and shares."""

from closehaul.errors import NoText
from closehaul.fractions import fraction_read, fraction_written, number_read, number_written
from closehaul.places import east_of, north_of, place_of


def vector_written(vector):
    east = number_written(vector[0])
    north = number_written(vector[1])
    return f"{east},{north}"


def place_written(place):
    east = fraction_written(east_of(place))
    north = fraction_written(north_of(place))
    return f"{east},{north}"


def share_written(heading, share):
    number = number_written(heading)
    part = fraction_written(share)
    return f"{number}:{part}"


def shares_written(shares):
    return " ".join([share_written(heading, share) for heading, share in shares])


def two_parts(text, mark):
    parts = text.split(mark)
    if len(parts) != 2:
        raise NoText("here stand two parts with one mark between them")
    return parts


def vector_read(text):
    parts = two_parts(text, ",")
    return (number_read(parts[0]), number_read(parts[1]))


def place_read(text):
    parts = two_parts(text, ",")
    return place_of(fraction_read(parts[0]), fraction_read(parts[1]))


def share_read(text):
    parts = two_parts(text, ":")
    return (number_read(parts[0]), fraction_read(parts[1]))


def name_read(text):
    if text == "" or "\n" in text:
        raise NoText("a name has one sign at least, and no line end")
    return text

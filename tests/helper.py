"""What several test files ask of the answers that are told."""

from math import gcd


def is_number(value):
    return isinstance(value, int) and not isinstance(value, bool)


def is_tuple_of_numbers(value, length):
    return type(value) is tuple and len(value) == length and all(is_number(part) for part in value)


def is_fraction(value):
    return is_tuple_of_numbers(value, 2) and value[1] >= 1 and gcd(*value) == 1


def is_place(value):
    return is_tuple_of_numbers(value, 3) and value[2] >= 1 and gcd(*value) == 1


def number_of_figures(figures):
    """The number that a text of figures writes, without Python's bound on their count."""
    number = 0
    for start in range(0, len(figures), 1000):
        piece = figures[start:start + 1000]
        number = number * 10 ** len(piece) + int(piece)
    return number

"""Fractions: pairs (top, bottom) without a common divisor above 1, the bottom at least 1."""

from closehaul.errors import NoFraction, NoText

FIGURES = "0123456789"
MOST_FIGURES = 600
BLOCK_FIGURES = 64


def common_divisor(one, other):
    great = abs(one)
    small = abs(other)
    while small != 0:
        rest = great % small
        great = small
        small = rest
    return great


def lowest(top, bottom):
    if bottom == 0:
        raise NoFraction("a fraction has no bottom of nought")
    divisor = common_divisor(bottom, top)
    if bottom < 0:
        # Dividing by a divisor below nought turns both signs, so the bottom ends above nought.
        divisor = -divisor
    return (top // divisor, bottom // divisor)


def added(one, other):
    # Both are in their lowest numbers, so nothing but a divisor of both bottoms can divide the new top and the new
    # bottom. To look for that alone keeps a sum of many great fractions quick.
    shared = common_divisor(one[1], other[1])
    one_times = other[1] // shared
    other_times = one[1] // shared
    top = one[0] * one_times + other[0] * other_times
    rest = common_divisor(shared, top)
    return (top // rest, other_times * (other[1] // rest))


def taken(one, other):
    return added(one, (-other[0], other[1]))


def multiplied(one, other):
    return lowest(one[0] * other[0], one[1] * other[1])


def divided(one, other):
    # The new bottom is 0 just where the other is nought, so lowest refuses just that.
    return lowest(one[0] * other[1], one[1] * other[0])


def is_before(one, other):
    # Both bottoms are above nought, so multiplying by them keeps the order.
    return one[0] * other[1] < other[0] * one[1]


def number_written(number):
    # Python refuses to write a number of more than some 4300 figures at once, so it is written block by block.
    block = 10 ** 64
    rest = abs(number)
    parts = []
    while rest >= block:
        parts.append(str(rest % block).zfill(BLOCK_FIGURES))
        rest = rest // block
    parts.append(str(rest))
    if number < 0:
        parts.append("-")
    parts.reverse()
    return "".join(parts)


def fraction_written(fraction):
    top = number_written(fraction[0])
    if fraction[1] == 1:
        return top
    bottom = number_written(fraction[1])
    return f"{top}/{bottom}"


def is_plain_figures(text):
    if text == "0":
        return True
    if text == "" or text[0] == "0" or len(text) > MOST_FIGURES:
        return False
    return all([sign in FIGURES for sign in text])


def number_read(text):
    # int alone would take blanks, underscores, a plus and noughts ahead, so the form is looked at first.
    figures = text[1:] if text.startswith("-") else text
    if text == "-0" or not is_plain_figures(figures):
        raise NoText("this writes no number")
    return int(text)


def fraction_read(text):
    parts = text.split("/")
    if len(parts) > 2:
        raise NoText("a fraction has one stroke at most")
    top = number_read(parts[0])
    if len(parts) == 1:
        return (top, 1)
    bottom = number_read(parts[1])
    if bottom < 2 or common_divisor(bottom, top) != 1:
        raise NoText("a fraction is written in its lowest numbers, a whole one without a stroke")
    return (top, bottom)

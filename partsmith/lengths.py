"""Lengths: exact fractions (top, bottom), 0 or above, in lowest terms."""

from partsmith.errors import NoLength
from partsmith.words import number_text, read_number

LENGTH_FIGURES = 4


def common_divisor(one, other):
    """The greatest number that divides both."""
    while other != 0:
        rest = one % other
        one = other
        other = rest
    return one


def made_length(top, bottom):
    """The length top by bottom."""
    divisor = common_divisor(top, bottom)
    return (top // divisor, bottom // divisor)


def added(one, other):
    """Both lengths together."""
    return made_length(one[0] * other[1] + other[0] * one[1], one[1] * other[1])


def less(one, other):
    """What is left of the one without the other."""
    return made_length(one[0] * other[1] - other[0] * one[1], one[1] * other[1])


def shorter(one, other):
    """Whether the one is less than the other."""
    return one[0] * other[1] < other[0] * one[1]


def length_text(one):
    """The length as it is written."""
    if one[1] == 1:
        return number_text(one[0])
    return number_text(one[0]) + "/" + number_text(one[1])


def read_length(text):
    """The length that the text writes, in lowest terms or not."""
    parts = text.split("/")
    if len(parts) > 2:
        raise NoLength("a length has one stroke at most")
    top = read_number(parts[0], LENGTH_FIGURES)
    bottom = 1
    if len(parts) == 2:
        bottom = read_number(parts[1], LENGTH_FIGURES)
    if top is None or bottom is None or bottom == 0:
        raise NoLength("a length is written top/bottom or top, of one to four figures each")
    return made_length(top, bottom)

"""What has the form of a fraction, a place, a side or a mix, and the errors for what has not."""

from math import gcd

from steermeans.errors import InvalidMix, InvalidPair
from steermeans.ratios import total


def is_whole(value):
    """Whether a value, whatever it is, is a whole number (True and False are none)."""
    return type(value) is int


def is_tuple_of(value, least, most):
    """Whether a value, whatever it is, is a tuple with so many things in it."""
    return type(value) is tuple and least <= len(value) <= most


def is_fraction(value):
    """Whether a value, whatever it is, is a fraction."""
    if not is_tuple_of(value, 2, 2):
        return False
    above, below = value
    return is_whole(above) and is_whole(below) and below > 0 and gcd(above, below) == 1


def are_fractions(value, least, most):
    """Whether a value, whatever it is, is a tuple of so many fractions."""
    return is_tuple_of(value, least, most) and all([is_fraction(number) for number in value])


def is_place(value):
    """Whether a value, whatever it is, is a pair of fractions."""
    return are_fractions(value, 2, 2)


def is_side(value):
    """Whether a value, whatever it is, is a side."""
    return are_fractions(value, 3, 3) and (value[0][0] != 0 or value[1][0] != 0)


def check_place(place):
    """Raise InvalidPair for what is no pair of fractions."""
    if not is_place(place):
        raise InvalidPair(place)


def check_mix(mix, many):
    """Raise InvalidMix for what is no mix of so many."""
    if not is_tuple_of(mix, many, many):
        raise InvalidMix(None)
    for at, part in enumerate(mix):
        if not is_fraction(part) or part[0] < 0:
            raise InvalidMix(at)
    if total(mix) != (1, 1):
        raise InvalidMix(None)

"""What has the form of a fraction, a place, a side or a mix, and the errors for what has not."""

from math import gcd

from steermeans.errors import (InvalidColumns, InvalidFraction, InvalidMix, InvalidNumber, InvalidPair, InvalidPlays,
                               InvalidSide, InvalidWeights)
from steermeans.ratios import at_most, total


def is_whole(value):
    """Whether a value, whatever it is, is a whole number (True and False are none)."""
    return type(value) is int


def is_tuple_of(value, least, most):
    """Whether a value, whatever it is, is a tuple with so many things in it."""
    return type(value) is tuple and least <= len(value) <= most


def is_fraction(value):
    """Whether a value, whatever it is, is a fraction."""
    if not is_tuple_of(value, 2, 2):
        return False
    above, below = value
    return is_whole(above) and is_whole(below) and below > 0 and gcd(above, below) == 1


def are_fractions(value, least, most):
    """Whether a value, whatever it is, is a tuple of so many fractions."""
    return is_tuple_of(value, least, most) and all([is_fraction(number) for number in value])


def is_place(value):
    """Whether a value, whatever it is, is a pair of fractions."""
    return are_fractions(value, 2, 2)


def is_side(value):
    """Whether a value, whatever it is, is a side."""
    return are_fractions(value, 3, 3) and (value[0][0] != 0 or value[1][0] != 0)


def is_mix(value, many):
    """Whether a value, whatever it is, is a mix of so many."""
    return are_fractions(value, many, many) and all([part[0] >= 0 for part in value]) and total(value) == (1, 1)


def is_index(value, many):
    """Whether a value, whatever it is, is an index of one of so many."""
    return is_whole(value) and 0 <= value < many


def check_place(place):
    """Raise InvalidPair for what is no pair of fractions."""
    if not is_place(place):
        raise InvalidPair(place)


def check_mix(mix, many):
    """Raise InvalidMix for what is no mix of so many."""
    if not is_tuple_of(mix, many, many):
        raise InvalidMix(None)
    for at, part in enumerate(mix):
        if not is_fraction(part) or part[0] < 0:
            raise InvalidMix(at)
    if total(mix) != (1, 1):
        raise InvalidMix(None)


def check_side(side):
    """Raise InvalidSide for what is no side."""
    if not is_side(side):
        raise InvalidSide(side)


def check_share(share):
    """Raise InvalidFraction for what is no fraction from 0 to 1."""
    if not is_fraction(share) or share[0] < 0 or not at_most(share, (1, 1)):
        raise InvalidFraction(share)


def check_number(number, least, most):
    """Raise InvalidNumber for what is no whole number of the told size."""
    if not is_whole(number) or not least <= number <= most:
        raise InvalidNumber(number)


def check_widths(widths, many):
    """Raise InvalidWeights for what is no tuple of so many fractions above 0."""
    if not is_tuple_of(widths, many, many):
        raise InvalidWeights(None)
    for at, width in enumerate(widths):
        if not is_fraction(width) or width[0] <= 0:
            raise InvalidWeights(at)


def is_round(value, rows, columns):
    """Whether a value, whatever it is, is a pair of a mix of so many rows and an index of one of so many columns."""
    return is_tuple_of(value, 2, 2) and is_mix(value[0], rows) and is_index(value[1], columns)


def check_plays(plays, rows, columns):
    """Raise InvalidPlays for what is no tuple of up to 40 rounds."""
    if type(plays) is not tuple:
        raise InvalidPlays(None)
    for at, element in enumerate(plays):
        if at == 40 or not is_round(element, rows, columns):
            raise InvalidPlays(at)


def check_columns(columns, many, most):
    """Raise InvalidColumns for what is no tuple of indexes of so many columns, or has more than the told number."""
    if type(columns) is not tuple:
        raise InvalidColumns(None)
    for at, column in enumerate(columns):
        if at == most or not is_index(column, many):
            raise InvalidColumns(at)

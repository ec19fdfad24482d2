"""What has the form of a fraction, a place, a side or a mix, and the errors for what has not."""

from math import gcd

from steermeans.errors import (InvalidColumns, InvalidDays, InvalidFraction, InvalidMix, InvalidNumber, InvalidPair,
                               InvalidPlays, InvalidRounds, InvalidShares, InvalidSide, InvalidWeights)
from steermeans.ratios import total


def is_whole(value):
    """Whether a value, whatever it is, is a whole number (True and False are none)."""
    return type(value) is int


def is_tuple_of(value, least, most):
    """Whether a value, whatever it is, is a tuple with so many things in it."""
    return type(value) is tuple and least <= len(value) <= most


def is_fraction(value):
    """Whether a value, whatever it is, is a fraction."""
    if not is_tuple_of(value, 2, 2):
        return False
    above, below = value
    return is_whole(above) and is_whole(below) and below > 0 and gcd(above, below) == 1


def are_fractions(value, least, most):
    """Whether a value, whatever it is, is a tuple of so many fractions."""
    return is_tuple_of(value, least, most) and all([is_fraction(number) for number in value])


def is_place(value):
    """Whether a value, whatever it is, is a pair of fractions."""
    return are_fractions(value, 2, 2)


def is_side(value):
    """Whether a value, whatever it is, is a side."""
    return are_fractions(value, 3, 3) and (value[0][0] != 0 or value[1][0] != 0)


def are_not_below_nil(value, many):
    """Whether a value, whatever it is, is a tuple of so many fractions from 0 on."""
    return are_fractions(value, many, many) and all([number[0] >= 0 for number in value])


def is_mix(value, many):
    """Whether a value, whatever it is, is a mix of so many."""
    return are_not_below_nil(value, many) and total(value) == (1, 1)


def is_index(value, many):
    """Whether a value, whatever it is, is an index of one of so many."""
    return is_whole(value) and 0 <= value < many


def check_place(place):
    """Raise InvalidPair for what is no pair of fractions."""
    if not is_place(place):
        raise InvalidPair(place)


def check_mix(mix, many):
    """Raise InvalidMix for what is no mix of so many."""
    if not is_tuple_of(mix, many, many):
        raise InvalidMix(None)
    for at, part in enumerate(mix):
        if not is_fraction(part) or part[0] < 0:
            raise InvalidMix(at)
    if total(mix) != (1, 1):
        raise InvalidMix(None)


def check_side(side):
    """Raise InvalidSide for what is no side."""
    if not is_side(side):
        raise InvalidSide(side)


def check_fraction(fraction):
    """Raise InvalidFraction for what is no fraction."""
    if not is_fraction(fraction):
        raise InvalidFraction(fraction)


def is_share(value):
    """Whether a value, whatever it is, is a fraction from 0 to 1."""
    return is_fraction(value) and 0 <= value[0] <= value[1]


def check_share(share):
    """Raise InvalidFraction for what is no fraction from 0 to 1."""
    if not is_share(share):
        raise InvalidFraction(share)


def check_number(number, least, most):
    """Raise InvalidNumber for what is no whole number of the told size."""
    if not is_whole(number) or not least <= number <= most:
        raise InvalidNumber(number)


def check_widths(widths, many):
    """Raise InvalidWeights for what is no tuple of so many fractions above 0."""
    if not is_tuple_of(widths, many, many):
        raise InvalidWeights(None)
    for at, width in enumerate(widths):
        if not is_fraction(width) or width[0] <= 0:
            raise InvalidWeights(at)


def is_round(value, rows, columns):
    """Whether a value, whatever it is, is a pair of a mix of so many rows and an index of one of so many columns."""
    return is_tuple_of(value, 2, 2) and is_mix(value[0], rows) and is_index(value[1], columns)


def check_plays(plays, rows, columns):
    """Raise InvalidPlays for what is no tuple of up to 40 rounds."""
    if type(plays) is not tuple:
        raise InvalidPlays(None)
    for at, element in enumerate(plays):
        if at == 40 or not is_round(element, rows, columns):
            raise InvalidPlays(at)


def check_columns(columns, many, most):
    """Raise InvalidColumns for what is no tuple of indexes of so many columns, or has more than the told number."""
    if type(columns) is not tuple:
        raise InvalidColumns(None)
    for at, column in enumerate(columns):
        if at == most or not is_index(column, many):
            raise InvalidColumns(at)


def check_columns_along(columns, many, levels):
    """Raise InvalidColumns for what is no tuple of an index of one of so many columns for each of so many levels."""
    if not is_tuple_of(columns, levels, levels):
        raise InvalidColumns(None)
    check_columns(columns, many, levels)


def is_grid(value, height, width):
    """Whether a value, whatever it is, is a tuple of so many rows, each a tuple of so many things."""
    return is_tuple_of(value, height, height) and all([is_tuple_of(row, width, width) for row in value])


def check_shares(shares, height, width):
    """Raise InvalidShares for what is no rows of fractions from 0 on, of this size, with the sum 1."""
    if not is_grid(shares, height, width):
        raise InvalidShares(None)
    for at, row in enumerate(shares):
        if not are_not_below_nil(row, width):
            raise InvalidShares(at)
    if total([share for row in shares for share in row]) != (1, 1):
        raise InvalidShares(None)


def check_weights(weights, height, width):
    """Raise InvalidWeights for what is no rows of fractions of this size."""
    if not is_grid(weights, height, width):
        raise InvalidWeights(None)
    for at, row in enumerate(weights):
        if not are_fractions(row, width, width):
            raise InvalidWeights(at)


def are_two_mixes(value, height, width):
    """Whether a value, whatever it is, is a pair of a mix of so many and another one of so many."""
    return is_tuple_of(value, 2, 2) and is_mix(value[0], height) and is_mix(value[1], width)


def check_rounds(rounds):
    """Raise InvalidRounds for what is no tuple of 1 to 40 pairs of mixes of one size."""
    if type(rounds) is not tuple or len(rounds) == 0:
        raise InvalidRounds(None)
    first = rounds[0]
    if not is_tuple_of(first, 2, 2) or not all([is_tuple_of(mix, 1, 4) for mix in first]):
        raise InvalidRounds(0)
    for at, element in enumerate(rounds):
        if at == 40 or not are_two_mixes(element, len(first[0]), len(first[1])):
            raise InvalidRounds(at)


def check_days(days, many):
    """Raise InvalidDays for what is no tuple of up to 40 pairs of a mix of so many and 0 or 1."""
    if type(days) is not tuple:
        raise InvalidDays(None)
    for at, element in enumerate(days):
        if at == 40 or not is_round(element, many, 2):
            raise InvalidDays(at)


def check_rains(rains, levels):
    """Raise InvalidDays for what is no tuple of 0 or 1 for each of so many levels."""
    if not is_tuple_of(rains, levels, levels):
        raise InvalidDays(None)
    for at, rain in enumerate(rains):
        if not is_index(rain, 2):
            raise InvalidDays(at)

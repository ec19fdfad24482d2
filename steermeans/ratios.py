"""Exact arithmetic with fractions, each told as a pair of whole numbers in lowest terms."""

from math import gcd, lcm


def ratio(above, below):
    """The fraction above / below, whole numbers, the second one above 0."""
    shared = gcd(above, below)
    return (above // shared, below // shared)


def plus(one, two):
    """The sum of two fractions."""
    return ratio(one[0] * two[1] + two[0] * one[1], one[1] * two[1])


def minus(one, two):
    """The first fraction less the second one."""
    return ratio(one[0] * two[1] - two[0] * one[1], one[1] * two[1])


def times(one, two):
    """The product of two fractions."""
    return ratio(one[0] * two[0], one[1] * two[1])


def at_most(one, two):
    """Whether the first fraction is not above the second one."""
    return one[0] * two[1] <= two[0] * one[1]


def total(fractions):
    """The sum of some fractions, 0 for none."""
    found = (0, 1)
    for number in fractions:
        found = plus(found, number)
    return found


def weighted(weights, fractions):
    """The sum of some fractions, each times its weight."""
    return total([times(weight, number) for weight, number in zip(weights, fractions)])


def common_scale(fractions):
    """The least whole number above 0 that makes each of some fractions whole."""
    scale = 1
    for number in fractions:
        scale = lcm(scale, number[1])
    return scale


def scaled(fraction, scale):
    """The whole number that a fraction becomes, times a scale that makes it whole."""
    return fraction[0] * (scale // fraction[1])


def least_of(fractions):
    """The least of some fractions."""
    scale = common_scale(fractions)
    return ratio(min([scaled(number, scale) for number in fractions]), scale)


def greatest_of(fractions):
    """The greatest of some fractions."""
    scale = common_scale(fractions)
    return ratio(max([scaled(number, scale) for number in fractions]), scale)


def plain_numbers(fractions):
    """Some fractions times one above 0 that makes them whole, without a common divisor; and this one."""
    scale = common_scale(fractions)
    numbers = [scaled(number, scale) for number in fractions]
    shared = 0
    for number in numbers:
        shared = gcd(shared, number)
    if shared == 0:
        return numbers, (1, 1)
    return [number // shared for number in numbers], ratio(scale, shared)


def divided(one, two):
    """The first fraction divided by the second one, which is above 0."""
    return ratio(one[0] * two[1], one[1] * two[0])

"""The distance of a few spots and all means of them from sides that have a common place, but none with these means."""

from itertools import combinations

from steermeans.fields import corner_spots, nearest_spot, square_between
from steermeans.ratios import least_of


def stretch_sides(one, two):
    """Sides in whole numbers whose common places are the stretch between two spots that are not alike."""
    a, b, scale = one
    c, d, other = two
    x, y, u, v = a * other, b * other, c * scale, d * scale
    scale = scale * other
    along, across = u - x, v - y
    off = x * across - y * along
    return [(across * scale, -along * scale, off), (-across * scale, along * scale, -off),
            (along * scale, across * scale, along * u + across * v),
            (-along * scale, -across * scale, -along * x - across * y)]


def is_alike(one, two):
    """Whether two spots stand for one place."""
    return one[0] * two[2] == two[0] * one[2] and one[1] * two[2] == two[1] * one[2]


def square_to_hull(sides, spots):
    """The square of the least distance of a mean of some spots from all places in each side, if none is in them."""
    # two nearest places of both can be chosen such that one is a spot itself, or a corner
    squares = [square_between(spot, nearest_spot(sides, spot)) for spot in spots]
    for one, two in combinations(spots, 2):
        if not is_alike(one, two):
            stretch = stretch_sides(one, two)
            squares += [square_between(spot, nearest_spot(stretch, spot)) for spot in corner_spots(sides)]
    return least_of(squares)

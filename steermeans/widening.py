"""The least whole number from which on two sides, moved by so many of their widths, are kept together.

A side is a pair here: the table of its excess, in the unit of widths, times a scale above 0 that makes it whole, and
this scale. Moved by a level, a whole number, each number of the table is less by the level times the scale. Both
sides are barred at a level exactly if some tilted table has a worth above this level: so the greatest worth counts.
"""

from math import lcm

from steermeans.climbing import climbed
from steermeans.tilting import lifting


def rounded_up(above, below):
    """The least whole number that is not below above / below, the second one above 0."""
    return -(-above // below)


def enlarged(whole, many):
    """A table of whole numbers, each times another one."""
    return [[number * many for number in row] for row in whole]


def lowered(whole, less):
    """A table of whole numbers less another one."""
    return [[number - less for number in row] for row in whole]


def next_level(one, two, scale, level):
    """The level itself if two sides are kept together at it, else a greater one below which they are barred."""
    found = lifting(lowered(one, level * scale), lowered(two, level * scale))
    if found is None:
        return level
    above, below = climbed(one, two, scale, (found[0], found[1]))
    return max(level + 1, rounded_up(above, below * scale))


def kept_level(one, two, scale):
    """Some level at which two sides are kept together: one row is in both, whatever the column is."""
    return rounded_up(min([max(row + other) for row, other in zip(one, two)]), scale)


def level_between(least, most):
    """A level from the least one on, below the other one: such that few steps find small ones among large ones."""
    small = least.bit_length()
    large = most.bit_length()
    if large - small > 1:
        return 1 << ((small + large - 1) // 2)
    return (least + most) // 2


def least_level(side, other, start):
    """The least level, from a start from 0 on, at which two sides are kept together."""
    scale = lcm(side[1], other[1])
    one = enlarged(side[0], scale // side[1])
    two = enlarged(other[0], scale // other[1])
    least = next_level(one, two, scale, start)
    most = kept_level(one, two, scale)
    # what was climbed is most often the greatest worth: so its level is tried first, and then every other time
    near = True
    while start < least < most:
        level = least if near else level_between(least, most)
        told = next_level(one, two, scale, level)
        if told == level:
            most = level
        else:
            least = told
        near = not near
    return least

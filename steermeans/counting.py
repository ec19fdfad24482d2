"""Sums over rounds or days in whole numbers, all over one count, so that nothing has to be divided on the way."""

from steermeans.ratios import common_scale, ratio, scaled


def whole_mixes(mixes):
    """Some mixes times the least whole number above 0 that makes all of them whole, and this number."""
    count = common_scale([part for mix in mixes for part in mix])
    return [[scaled(part, count) for part in mix] for mix in mixes], count


def running_sums(steps, many):
    """The sums of none, of the first one, of the first two of some lists of so many numbers, and so on."""
    sums = [[0] * many]
    for step in steps:
        sums.append([number + more for number, more in zip(sums[-1], step)])
    return sums


def above_nil(numbers):
    """Some whole numbers, 0 in the place of those below 0."""
    return [max(number, 0) for number in numbers]


def square_sum(numbers):
    """The sum of the squares of some whole numbers."""
    return sum([number * number for number in numbers])


def ratios(numbers, scale):
    """Some whole numbers, divided by one above 0."""
    return tuple([ratio(number, scale) for number in numbers])

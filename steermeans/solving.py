"""The worth of a table and mixes that have it, told by one of its square parts.

For a square part let each row weigh the determinant of the part with ones in that row's place, and each column
likewise. Both kinds of weights have the same sum, that of all cofactors; divided by it they make each column, and
each row, of the part alike: the determinant over that sum. Some square part gives so a low and a high mix of the
whole table (Shapley, Snow 1950), and both together prove the worth.
"""

from itertools import combinations

from steermeans.ratios import common_scale, ratio, scaled


def determinant(square):
    """The determinant of a list of rows, each a list of as many whole numbers."""
    if len(square) == 1:
        return square[0][0]
    found = 0
    for at, number in enumerate(square[0]):
        rest = determinant([row[:at] + row[at + 1:] for row in square[1:]])
        if at % 2 == 0:
            found += number * rest
        else:
            found -= number * rest
    return found


def square_parts(height, width):
    """The pairs of row indexes and as many column indexes of a table of this size, small parts first."""
    parts = []
    for size in range(1, min(height, width) + 1):
        for rows in combinations(range(height), size):
            for columns in combinations(range(width), size):
                parts.append((rows, columns))
    return parts


def row_weights(square):
    """For each row the determinant with ones in its place."""
    ones = [1] * len(square)
    return [determinant(square[:at] + [ones] + square[at + 1:]) for at in range(len(square))]


def exchanged(rows):
    """Rows and columns exchanged."""
    return [[row[at] for row in rows] for at in range(len(rows[0]))]


def dot(weights, numbers):
    """The sum of some whole numbers, each times its weight."""
    return sum([weight * number for weight, number in zip(weights, numbers)])


def spread(weights, indexes, many):
    """Weights at their indexes, 0 at all others of so many."""
    found = [0] * many
    for weight, at in zip(weights, indexes):
        found[at] = weight
    return found


def part_weights(whole, rows, columns):
    """The weights of all rows and of all columns that a square part gives, their sums not below 0."""
    part = [[whole[at][place] for place in columns] for at in rows]
    low = row_weights(part)
    high = row_weights(exchanged(part))
    if sum(low) < 0:
        low = [-weight for weight in low]
        high = [-weight for weight in high]
    return spread(low, rows, len(whole)), spread(high, columns, len(whole[0]))


def greatest_column(whole, low):
    """The greatest number that a column has with weights of the rows."""
    return max([dot(low, column) for column in exchanged(whole)])


def least_row(whole, high):
    """The least number that a row has with weights of the columns."""
    return min([dot(high, row) for row in whole])


def settles(whole, low, high):
    """Whether weights of rows and of columns, alike in their sum, are mixes that prove the worth."""
    if sum(low) == 0 or min(low) < 0 or min(high) < 0:
        return False
    return greatest_column(whole, low) <= least_row(whole, high)


def settling_weights(whole):
    """The weights of rows and of columns that prove the worth of a table of whole numbers."""
    # the loop always returns, as some square part settles the table
    for rows, columns in square_parts(len(whole), len(whole[0])):
        low, high = part_weights(whole, rows, columns)
        if settles(whole, low, high):
            return low, high


def whole_table(table):
    """A table times the least number above 0 that makes it whole, and this number."""
    scale = common_scale([number for row in table for number in row])
    return [[scaled(number, scale) for number in row] for row in table], scale


def mix_of(weights):
    """Weights divided by their sum, which is above 0."""
    count = sum(weights)
    return tuple([ratio(weight, count) for weight in weights])


def solution(table):
    """The worth of a table, a low mix and a high mix."""
    whole, scale = whole_table(table)
    low, high = settling_weights(whole)
    return ratio(least_row(whole, high), sum(high) * scale), mix_of(low), mix_of(high)


def keeping(table):
    """A mix of rows that keeps each column of a table at most 0; None."""
    most, low, _ = solution(table)
    return low if most[0] <= 0 else None


def rounded(weights, bits):
    """Weights with a power of two as their sum, near to some weights from 0 on."""
    count = sum(weights)
    ahead = 0
    marks = [0]
    for weight in weights:
        ahead += weight
        marks.append(((ahead << (bits + 1)) + count) // (2 * count))
    return [high - low for low, high in zip(marks, marks[1:])]


def plain_keeping(table):
    """A mix of rows that keeps each column of a table at most 0, of small numbers if they are enough; None."""
    whole, _ = whole_table(table)
    low, high = settling_weights(whole)
    if least_row(whole, high) > 0:
        return None
    for bits in (0, 1, 2, 4, 8, 16, 32, 64):
        plain = rounded(low, bits)
        if greatest_column(whole, plain) <= 0:
            return mix_of(plain)
    return mix_of(low)

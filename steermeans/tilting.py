"""Two tables of whole numbers, and whether a sum of multiples of both, from 0 on, has a worth above 0.

Such a sum is settled for all numbers from 0 on if it is for one between each two neighbouring numbers at which the
determinant of a square part is 0 ([15]).
"""

from steermeans.roots import fractions_between
from steermeans.solving import determinant, greatest_column, least_row, settling_weights, square_parts


def together(one, two, first, second):
    """A multiple of one table and a multiple of another one, together."""
    return [[first * a + second * b for a, b in zip(row, other)] for row, other in zip(one, two)]


def part_polynomial(one, two, rows, columns):
    """The determinant of a square part of one table and x times another one, as a polynomial in x."""
    found = [0] * (len(rows) + 1)
    for choice in range(1 << len(rows)):
        part = []
        degree = 0
        for place, at in enumerate(rows):
            second = (choice >> place) & 1
            degree += second
            row = two[at] if second else one[at]
            part.append([row[column] for column in columns])
        found[degree] += determinant(part)
    return found


def settling_multiples(one, two):
    """Pairs of numbers above 0: one of the sums of such multiples has a worth above 0 if any has."""
    parts = square_parts(len(one), len(one[0]))
    polys = [part_polynomial(one, two, rows, columns) for rows, columns in parts]
    return [(below, above) for above, below in fractions_between(polys)]


def keeps(whole, low):
    """Whether weights of rows keep each column at most 0."""
    return greatest_column(whole, low) <= 0


def lifting(one, two):
    """Any triple of two multiples, from 0 on, and weights of columns with which each row of both is above 0; None."""
    lows = []
    for first, second in [(1, 0), (0, 1)]:
        whole = together(one, two, first, second)
        low, high = settling_weights(whole)
        if least_row(whole, high) > 0:
            return first, second, high
        if keeps(one, low) and keeps(two, low):
            return None
        lows.append(low)
    for first, second in settling_multiples(one, two):
        whole = together(one, two, first, second)
        # what one mix keeps need not be solved
        if not any([keeps(whole, low) for low in lows]):
            low, high = settling_weights(whole)
            if least_row(whole, high) > 0:
                return first, second, high
            lows.append(low)
    return None

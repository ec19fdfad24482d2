"""The greatest sum of weights over all correlated shares, as a straight program ([24]).

Each column of the first table, where the first one chooses among its rows, may be moved and stretched by itself, if
the shares of this column are divided by what it is stretched by, and so may each row of the second table. So each of
them is told by its plainest whole numbers, and no scale that is common to a whole table is needed.
"""

from steermeans.guessing import kept_parts, mean_by_guess
from steermeans.programs import greatest_mean
from steermeans.ratios import divided, greatest_of, minus, plain_numbers, ratio, times
from steermeans.solving import exchanged


def moved_lines(rows):
    """Each row less its first number."""
    return [[minus(number, row[0]) for number in row] for row in rows]


def plain_lines(rows):
    """Each row times what makes it plain, and what this is for each."""
    told = [plain_numbers(row) for row in rows]
    return [numbers for numbers, _ in told], [factor for _, factor in told]


def rounded_lines(rows):
    """Whole numbers of up to 128 bits that are about as all numbers of some rows are to one another."""
    most = greatest_of([(abs(above), below) for row in rows for above, below in row])
    if most[0] == 0:
        return [[0] * len(row) for row in rows]
    return [[((above * most[1]) << 128) // (below * most[0]) for above, below in row] for row in rows]


def unlike_pairs(many):
    """The pairs of unlike indexes of so many, in order."""
    return [(one, two) for one in range(many) for two in range(many) if one != two]


def left_sums(columns, rows):
    """For each pair of unlike rows, then of unlike columns, what each place comes to in the gain left by its share."""
    height, width = len(rows), len(columns)
    found = []
    for i, k in unlike_pairs(height):
        found.append([column[k] - column[i] if at == i else 0 for at in range(height) for column in columns])
    for i, k in unlike_pairs(width):
        found.append([row[k] - row[i] if at == i else 0 for row in rows for at in range(width)])
    return found


def is_large(rows):
    """Whether some whole numbers in rows are so large that rounded ones are worth a look."""
    return max([number.bit_length() for row in rows for number in row]) > 128


def rounded_mean(worths, counts, sums, tables):
    """As greatest_mean, by a look at rounded weights and tables; None if this does not help."""
    columns, rows, weights = [rounded_lines(table) for table in tables]
    places, lines = kept_parts(weights[0], [1] * len(worths), left_sums(columns, rows))
    return mean_by_guess(worths, counts, sums, places, lines)


def price_table(prices, factors):
    """A square table of the prices of unlike pairs, each divided by the factor of its first index."""
    many = len(factors)
    found = [[(0, 1)] * many for _ in range(many)]
    for (one, two), price in zip(unlike_pairs(many), prices):
        found[one][two] = divided(price, factors[one])
    return tuple([tuple(row) for row in found])


def balanced(first, second, weights):
    """The greatest sum over all correlated shares, shares that have it, and the pair of tables of prices for it."""
    height, width = len(first), len(first[0])
    flat = [weight for row in weights for weight in row]
    tables = [moved_lines(exchanged(first)), moved_lines(second), [flat]]
    columns, by_column = plain_lines(tables[0])
    rows, by_row = plain_lines(tables[1])
    counts, scale = plain_numbers([times(one, two) for one in by_row for two in by_column])
    worths, worth_scale = plain_numbers(flat)
    sums = left_sums(columns, rows)
    found = rounded_mean(worths, counts, sums, tables) if is_large([worths, counts] + sums) else None
    multiples, prices, mean, unit = greatest_mean(worths, counts, sums) if found is None else found
    shares = [ratio(count * multiple, unit) for count, multiple in zip(counts, multiples)]
    told = [divided(ratio(price, unit), times(scale, worth_scale)) for price in prices]
    split = len(unlike_pairs(height))
    return (divided(ratio(mean, unit), worth_scale),
            tuple([tuple(shares[at * width:(at + 1) * width]) for at in range(height)]),
            (price_table(told[:split], by_row), price_table(told[split:], by_column)))

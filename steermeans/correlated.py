"""Shares of the choices of two, who both want much, and what each of them gains by leaving its own part."""

from steermeans.balance import balanced
from steermeans.counting import ratios, whole_mixes
from steermeans.errors import UnlikeTables
from steermeans.forms import check_rounds, check_shares, check_weights
from steermeans.ratios import at_most, ratio
from steermeans.solving import dot, exchanged, whole_table
from steermeans.tables import check_table


def check_two(first, second):
    """Raise the errors of two tables of one size."""
    check_table(first)
    check_table(second)
    if len(first) != len(second) or len(first[0]) != len(second[0]):
        raise UnlikeTables()


def check_two_and_shares(first, second, shares):
    """Raise the errors of two tables and of shares."""
    check_two(first, second)
    check_shares(shares, len(first), len(first[0]))


def check_two_and_weights(first, second, weights):
    """Raise the errors of two tables and of weights."""
    check_two(first, second)
    check_weights(weights, len(first), len(first[0]))


def gains_by_rows(table, shares):
    """The gains left from each row to each row, times a whole number, and this number."""
    whole, scale = whole_table(table)
    parts, count = whole_mixes(shares)
    found = [[dot(part, other) - dot(part, own) for other in whole] for part, own in zip(parts, whole)]
    return found, scale * count


def both_gains(first, second, shares):
    """The gains left to the first one and those left to the second one, each times a whole number, and this number."""
    return [gains_by_rows(first, shares), gains_by_rows(exchanged(second), exchanged(shares))]


def joint_shares(rounds):
    """The mean, over all rounds, of the product of both parts."""
    check_rounds(rounds)
    ones, count = whole_mixes([one for one, _ in rounds])
    others, many = whole_mixes([two for _, two in rounds])
    scale = count * many * len(rounds)
    columns = exchanged(others)
    return tuple([ratios([dot(row, column) for column in columns], scale) for row in exchanged(ones)])


def gains_left(first, second, shares):
    """The pair of the tables of gains left to the first one and to the second one."""
    check_two_and_shares(first, second, shares)
    return tuple([tuple([ratios(row, scale) for row in gains])
                  for gains, scale in both_gains(first, second, shares)])


def most_gained(first, second, shares):
    """The greatest gain left, 0 at least."""
    check_two_and_shares(first, second, shares)
    one, two = [ratio(max([max(row) for row in gains]), scale) for gains, scale in both_gains(first, second, shares)]
    return two if at_most(one, two) else one


def is_correlated(first, second, shares):
    """Whether no gain left is above 0."""
    return most_gained(first, second, shares) == (0, 1)


def greatest_sum(first, second, weights):
    """The greatest sum of shares, each times its weight, over all correlated shares."""
    check_two_and_weights(first, second, weights)
    return balanced(first, second, weights)[0]


def correlated_shares(first, second, weights):
    """Correlated shares with the greatest sum."""
    check_two_and_weights(first, second, weights)
    return balanced(first, second, weights)[1]


def correlated_prices(first, second, weights):
    """Prices that show that no correlated shares have a greater sum."""
    check_two_and_weights(first, second, weights)
    return balanced(first, second, weights)[2]

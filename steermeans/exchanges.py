"""Exchanges: what it would have gained more to play one row wherever another one was played."""

from steermeans.counting import above_nil, ratios, running_sums, square_sum, whole_mixes
from steermeans.forms import check_mix
from steermeans.ratios import ratio
from steermeans.regrets import check_table_and_plays, whole_rounds
from steermeans.solving import dot, exchanged, mix_of, row_weights, spread


def round_exchanges(table, plays):
    """For each round what comes to the exchanges, row by row, times a whole number, and this number."""
    rounds, scale = whole_rounds(table, plays)
    found = []
    for weights, numbers in rounds:
        found.append([weight * (other - own) for weight, own in zip(weights, numbers) for other in numbers])
    return found, scale


def in_rows(numbers, many):
    """A list of numbers as so many rows of as many."""
    return [numbers[at * many:(at + 1) * many] for at in range(many)]


def exchange_sums(table, plays):
    """The exchanges behind none, the first one, the first two rounds, and so on, in rows; and by what to divide."""
    steps, scale = round_exchanges(table, plays)
    many = len(table)
    return [in_rows(sums, many) for sums in running_sums(steps, many * many)], scale


def is_even(sums, mix):
    """Whether as much flows by a mix into each row as out of it, where exchanges, times a number above 0, are such."""
    above = [above_nil(row) for row in sums]
    mixes, _ = whole_mixes([mix])
    weights = mixes[0]
    return all([dot(weights, column) == weight * sum(row)
                for column, weight, row in zip(exchanged(above), weights, above)])


def rows_reached(above, start):
    """The rows to which exchanges above 0 lead from a row, straight or by others, with itself, ascending."""
    found = [start]
    at = 0
    while at < len(found):
        found += [k for k, number in enumerate(above[found[at]]) if number > 0 and k not in found]
        at += 1
    return sorted(found)


def even_weights(sums):
    """Weights of the rows by which as much flows into each row as out of it."""
    above = [above_nil(row) for row in sums]
    # nothing flows out of the smallest of these groups, and each of its rows is reached from each other one
    group = min([rows_reached(above, start) for start in range(len(above))], key=len)
    flows = []
    for at, i in enumerate(group):
        flow = [-above[i][k] for k in group]
        flow[at] -= sum(flow)
        flows.append(flow)
    # each row of flows has the sum 0: so its cofactors are alike, and they are the weights that flow evenly (Kirchhoff)
    return spread(row_weights(flows), group, len(above))


def exchange_table(table, plays):
    """The exchange from each row to each row."""
    check_table_and_plays(table, plays)
    sums, scale = exchange_sums(table, plays)
    return tuple([ratios(row, scale) for row in sums[-1]])


def exchange_mix(table, plays):
    """A mix that flows evenly."""
    check_table_and_plays(table, plays)
    sums, _ = exchange_sums(table, plays)
    return mix_of(even_weights(sums[-1]))


def flows_evenly(table, plays, mix):
    """Whether a mix flows evenly."""
    check_table_and_plays(table, plays)
    check_mix(mix, len(table))
    sums, _ = exchange_sums(table, plays)
    return is_even(sums[-1], mix)


def is_exchanged(table, plays):
    """Whether each round's mix flows evenly for the rounds ahead of it."""
    check_table_and_plays(table, plays)
    ahead, _ = exchange_sums(table, plays)
    return all([is_even(sums, mix) for sums, (mix, _) in zip(ahead, plays)])


def exchange_squares(table, plays):
    """The sum, over all rounds, of the squares of what comes to each exchange."""
    check_table_and_plays(table, plays)
    steps, scale = round_exchanges(table, plays)
    return ratio(sum([square_sum(step) for step in steps]), scale * scale)

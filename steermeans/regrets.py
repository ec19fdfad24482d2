"""Regrets: what each row would have gained more than the mixes did. The first one, who mixes rows, wants much."""

from steermeans.counting import above_nil, ratios, running_sums, square_sum, whole_mixes
from steermeans.forms import check_plays
from steermeans.ratios import ratio
from steermeans.solving import dot, exchanged, mix_of, whole_table
from steermeans.tables import check_table


def check_table_and_plays(table, plays):
    """Raise the errors of a table and of its plays."""
    check_table(table)
    check_plays(plays, len(table), len(table[0]))


def whole_rounds(table, plays):
    """For each round the mix and the numbers of the column, both times a whole number; and the product of these two."""
    whole, scale = whole_table(table)
    mixes, count = whole_mixes([mix for mix, _ in plays])
    found = [(weights, [row[column] for row in whole]) for weights, (_, column) in zip(mixes, plays)]
    return found, scale * count


def round_regrets(table, plays):
    """For each round what each row gains more than the mix, times a whole number, and this number."""
    rounds, scale = whole_rounds(table, plays)
    found = []
    for weights, numbers in rounds:
        count = sum(weights)
        gain = dot(weights, numbers)
        found.append([count * number - gain for number in numbers])
    return found, scale


def is_matching(sums, mix):
    """Whether a mix is the matched one where regrets, times a number above 0, are such; any is if none is above 0."""
    above = above_nil(sums)
    count = sum(above)
    # if none is above 0 there is 0 on both sides
    return all([part[0] * count == part[1] * number for part, number in zip(mix, above)])


def regrets(table, plays):
    """The regret of each row."""
    check_table_and_plays(table, plays)
    steps, scale = round_regrets(table, plays)
    return ratios(running_sums(steps, len(table))[-1], scale)


def matched_mix(table, plays):
    """The regrets above 0 divided by their sum; all parts alike if there are none."""
    check_table_and_plays(table, plays)
    steps, _ = round_regrets(table, plays)
    above = above_nil(running_sums(steps, len(table))[-1])
    return mix_of(above) if any(above) else mix_of([1] * len(table))


def is_matched(table, plays):
    """Whether each round's mix is the matched one of the rounds ahead, where a regret is above 0 behind these."""
    check_table_and_plays(table, plays)
    steps, _ = round_regrets(table, plays)
    ahead = running_sums(steps, len(table))
    return all([is_matching(sums, mix) for sums, (mix, _) in zip(ahead, plays)])


def single_squares(table, plays):
    """The sum, over all rounds and rows, of the squares of what the row gains more than the mix."""
    check_table_and_plays(table, plays)
    steps, scale = round_regrets(table, plays)
    return ratio(sum([square_sum(step) for step in steps]), scale * scale)


def most_square(table):
    """What the single squares of no round are above, whatever the mix and the column are."""
    check_table(table)
    whole, scale = whole_table(table)
    sums = [square_sum([other - number for other in column]) for column in exchanged(whole) for number in column]
    return ratio(max(sums), scale * scale)

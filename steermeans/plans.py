"""Plans and tellings without mixes, and what each of them must suffer. The first one, who plays rows, wants much."""

from steermeans.errors import InvalidPlan
from steermeans.forms import (check_columns_along, check_mix, check_number, check_rains, is_index, is_share,
                              is_tuple_of)
from steermeans.ratios import at_most, greatest_of, least_of, minus, plus, ratio, total, weighted
from steermeans.solving import exchanged, whole_table
from steermeans.tables import check_table
from steermeans.turns import best_levels, least_worst, sums_of_plan


def most_levels(table):
    """How many levels a plan for a table may have."""
    return 4 if len(table[0]) == 4 else 5


def are_levels(value, most, many):
    """Whether a value, whatever it is, is a tuple of one to so many tuples, each so many times as long as the last."""
    if not is_tuple_of(value, 1, most):
        return False
    size = 1
    for level in value:
        if not is_tuple_of(level, size, size):
            return False
        size = size * many
    return True


def is_plan_for(table, value):
    """Whether a value, whatever it is, is a plan for a table that was checked."""
    if not are_levels(value, most_levels(table), len(table[0])):
        return False
    return all([is_index(row, len(table)) for level in value for row in level])


def check_table_and_plan(table, plan):
    """Raise the errors of a table and of a plan for it."""
    check_table(table)
    if not is_plan_for(table, plan):
        raise InvalidPlan(plan)


def check_plan_and_columns(table, plan, columns):
    """Raise the errors of a table, of a plan for it and of columns for its levels."""
    check_table_and_plan(table, plan)
    check_columns_along(columns, len(table[0]), len(plan))


def told_along(levels, steps, many):
    """What each level tells behind the steps ahead, each an index of so many."""
    found = []
    place = 0
    for level, step in zip(levels, steps):
        found.append(level[place])
        place = place * many + step
    return tuple(found)


def steps_told(levels, many):
    """The steps, where each level tells the next one behind the steps ahead."""
    found = ()
    place = 0
    for level in levels:
        found += (level[place],)
        place = place * many + level[place]
    return found


def steps_at(place, levels, many):
    """The steps, each an index of so many, that stand at a place in the order of tuples."""
    found = ()
    for _ in range(levels):
        found = (place % many,) + found
        place = place // many
    return found


def gain_along(table, rows, columns):
    """The sum of the numbers of some rows in as many columns."""
    return total([table[row][column] for row, column in zip(rows, columns)])


def worst_sums(table, plan):
    """The regrets of a plan along all columns, in the order of tuples, times a whole number; and this number."""
    whole, scale = whole_table(table)
    return [max(sums) for sums in sums_of_plan(whole, plan)], scale


def is_plan(table, value):
    """Whether a value, whatever it is, is a plan for a table."""
    check_table(table)
    return is_plan_for(table, value)


def rows_along(table, plan, columns):
    """The rows that are played along columns."""
    check_plan_and_columns(table, plan, columns)
    return told_along(plan, columns, len(table[0]))


def gain_of(table, plan, columns):
    """The gain along columns."""
    return gain_along(table, rows_along(table, plan, columns), columns)


def regret_of(table, plan, columns):
    """The greatest sum of one row's numbers along columns, less the gain."""
    gain = gain_of(table, plan, columns)
    return minus(greatest_of([total([row[column] for column in columns]) for row in table]), gain)


def worst_regret(table, plan):
    """The greatest regret along any columns."""
    check_table_and_plan(table, plan)
    worsts, scale = worst_sums(table, plan)
    return ratio(max(worsts), scale)


def worst_columns(table, plan):
    """The first columns along which the regret is the greatest."""
    check_table_and_plan(table, plan)
    worsts, _ = worst_sums(table, plan)
    return steps_at(worsts.index(max(worsts)), len(plan), len(table[0]))


def losses(table, mix):
    """For each row by how much the mix has more than it in each column."""
    means = [weighted(mix, column) for column in exchanged(table)]
    return [[minus(mean, number) for mean, number in zip(means, row)] for row in table]


def spoil_of(table, mix):
    """The least, over all rows, of the most that the mix has more than the row in a column."""
    check_table(table)
    check_mix(mix, len(table))
    return least_of([greatest_of(row) for row in losses(table, mix)])


def spoiling_columns(table, mix, plan):
    """Along a plan each time the first column in which the mix has most more than the row that is played."""
    check_table(table)
    check_mix(mix, len(table))
    check_table_and_plan(table, plan)
    worst = [row.index(greatest_of(row)) for row in losses(table, mix)]
    return steps_told([[worst[row] for row in level] for level in plan], len(table[0]))


def check_table_and_levels(table, levels):
    """Raise the errors of a table and of how many levels a plan for it has."""
    check_table(table)
    check_number(levels, 1, most_levels(table))


def least_regret(table, levels):
    """The least worst regret of all plans with so many levels."""
    check_table_and_levels(table, levels)
    whole, scale = whole_table(table)
    return ratio(least_worst(whole, levels, (0,) * len(whole), {}), scale)


def best_plan(table, levels):
    """A plan with so many levels and the least worst regret."""
    check_table_and_levels(table, levels)
    whole, _ = whole_table(table)
    return best_levels(whole, levels)


def is_telling(value):
    """Whether a value, whatever it is, is a telling."""
    return are_levels(value, 5, 2) and all([is_share(chance) for level in value for chance in level])


def check_telling(telling):
    """Raise InvalidPlan for what is no telling."""
    if not is_telling(telling):
        raise InvalidPlan(telling)


def wrong_in(telling, rains):
    """By how much a telling is wrong along rains, both being checked."""
    sums = {}
    for chance, rain in zip(told_along(telling, rains, 2), rains):
        sums[chance] = plus(sums.get(chance, (0, 1)), minus((rain, 1), chance))
    return total([(abs(above), below) for above, below in sums.values()])


def rains_against(telling):
    """Rain just where a chance below 1 / 2 is said."""
    check_telling(telling)
    return steps_told([[0 if at_most((1, 2), chance) else 1 for chance in level] for level in telling], 2)


def wrong_along(telling, rains):
    """By how much a telling is wrong along rains."""
    check_telling(telling)
    check_rains(rains, len(telling))
    return wrong_in(telling, rains)


def worst_wrong(telling):
    """By how much a telling is wrong along any rains at most."""
    check_telling(telling)
    many = len(telling)
    return greatest_of([wrong_in(telling, steps_at(place, many, 2)) for place in range(1 << many)])

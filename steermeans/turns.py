"""Plans as games of turns: what counts behind some levels is, for each row, its sum of numbers less the gain.

Tables are in whole numbers here. The sums, a tuple with a number for each row, are those of the columns so far.
"""


def sums_behind(whole, sums, row, column):
    """The sums after a row is played in a column."""
    own = whole[row][column]
    return tuple([number + line[column] - own for number, line in zip(sums, whole)])


def all_behind(whole, ahead, level):
    """The sums after all columns, where a level has a row to play after each of the sums ahead."""
    return [sums_behind(whole, sums, row, column) for sums, row in zip(ahead, level) for column in range(len(whole[0]))]


def sums_of_plan(whole, plan):
    """The sums along all columns that a plan has levels for, in the order of tuples."""
    found = [(0,) * len(whole)]
    for level in plan:
        found = all_behind(whole, found, level)
    return found


def worst_of_row(whole, left, sums, row, known):
    """The greatest regret if a row is played now and then, at all that are left of the levels, the best ones."""
    return max([least_worst(whole, left - 1, sums_behind(whole, sums, row, column), known)
                for column in range(len(whole[0]))])


def least_worst(whole, left, sums, known):
    """The least worst regret behind these sums with so many levels left; what was told before is known."""
    if left == 0:
        return max(sums)
    key = (left, sums)
    if key not in known:
        known[key] = min([worst_of_row(whole, left, sums, row, known) for row in range(len(whole))])
    return known[key]


def best_row(whole, left, sums, known):
    """The first row by which the worst regret is the least one."""
    worsts = [worst_of_row(whole, left, sums, row, known) for row in range(len(whole))]
    return worsts.index(min(worsts))


def best_levels(whole, levels):
    """The levels of a plan with the least worst regret."""
    known = {}
    found = [(0,) * len(whole)]
    plan = []
    for left in range(levels, 0, -1):
        plan.append(tuple([best_row(whole, left, sums, known) for sums in found]))
        found = all_behind(whole, found, plan[-1])
    return tuple(plan)

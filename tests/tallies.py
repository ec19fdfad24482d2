"""What the tests of regrets, exchanges, shares, chances and plans reckon by themselves, with Fractions."""

from fractions import Fraction
from itertools import product

from tests.helper import dot, number, numbers, pairs, plain, some_fraction, some_mix

SIZES = [(height, width) for height in range(1, 5) for width in range(1, 5)]
LARGE = Fraction(10 ** 300 + 7, 3 ** 500)


def told_rows(rows):
    """Rows of numbers as the package tells them."""
    return tuple(pairs(*row) for row in rows)


def some_rows(source, height, width, size=4, below=3):
    """Rows of some Fractions, at times with rows or columns alike."""
    rows = [[some_fraction(source, size, below) for _ in range(width)] for _ in range(height)]
    if source.random() < 0.15:
        rows[-1] = list(rows[0])
    return rows


def some_table(source, height, width, size=4, below=3):
    """Some told table."""
    return told_rows(some_rows(source, height, width, size, below))


def alone(at, many):
    """The told mix of one alone."""
    return pairs(*[int(at == k) for k in range(many)])


def some_table_plays(source, table, many):
    """Some told plays of a table, at times of rows alone."""
    found = []
    for _ in range(many):
        mix = pairs(*some_mix(source, len(table))) if source.random() < 0.7 else alone(
            source.randrange(len(table)), len(table))
        found.append((mix, source.randrange(len(table[0]))))
    return tuple(found)


def column_of(table, column):
    """A column of a told table as Fractions."""
    return [number(row[column]) for row in table]


def own_more(table, play):
    """What each row gains more than the mix, in one round."""
    gains = column_of(table, play[1])
    mean = dot(numbers(play[0]), gains)
    return [gain - mean for gain in gains]


def own_regrets(table, plays):
    """The regrets, by adding up round by round."""
    found = [Fraction(0)] * len(table)
    for play in plays:
        found = [a + b for a, b in zip(found, own_more(table, play))]
    return found


def above(values):
    """Those above 0, others as 0."""
    return [max(value, Fraction(0)) for value in values]


def square_sum(values):
    return sum((value * value for value in values), Fraction(0))


def own_matched(table, plays):
    """The matched mix by [19], and whether any mix would do."""
    left = above(own_regrets(table, plays))
    if not any(left):
        return [Fraction(1, len(table))] * len(table), True
    return [value / sum(left) for value in left], False


def own_exchange(table, play):
    """What comes to the exchanges in one round, as rows."""
    gains, mix = column_of(table, play[1]), numbers(play[0])
    return [[part * (other - own) for other in gains] for part, own in zip(mix, gains)]


def own_exchanges(table, plays):
    """The exchanges, as rows."""
    many = len(table)
    found = [[Fraction(0)] * many for _ in range(many)]
    for play in plays:
        found = [[a + b for a, b in zip(row, more)] for row, more in zip(found, own_exchange(table, play))]
    return found


def flows(exchanges, mix):
    """Whether as much flows into each row as out of it."""
    many = len(mix)
    pos = [above(row) for row in exchanges]
    return all(sum(mix[i] * pos[i][k] for i in range(many)) == mix[k] * sum(pos[k]) for k in range(many))


def own_gains(first, second, shares):
    """Both tables of gains left, by the sums of [22]."""
    u, v, s = plain(first), plain(second), plain(shares)
    height, width = len(u), len(u[0])
    rows = [[sum(s[i][j] * (u[k][j] - u[i][j]) for j in range(width)) for k in range(height)] for i in range(height)]
    columns = [[sum(s[i][j] * (v[i][k] - v[i][j]) for i in range(height)) for k in range(width)] for j in range(width)]
    return rows, columns


def are_shares(shares, height, width):
    """Whether what was told is shares of this size."""
    rows = plain(shares)
    return (len(rows) == height and all(len(row) == width and min(row) >= 0 for row in rows)
            and sum(map(sum, rows)) == 1)


def gains_nothing(first, second, shares):
    """Whether shares are correlated."""
    return all(gain <= 0 for rows in own_gains(first, second, shares) for row in rows for gain in row)


def weighed(weights, shares):
    """The sum of weights times shares."""
    return sum(dot(one, two) for one, two in zip(plain(weights), plain(shares), strict=True))


def are_prices(first, second, weights, most, prices):
    """Whether told prices show that no correlated shares have more than a number."""
    u, v, w = plain(first), plain(second), plain(weights)
    height, width = len(u), len(u[0])
    rows, columns = [plain(told) for told in prices]
    if [len(row) for row in rows] != [height] * height or [len(row) for row in columns] != [width] * width:
        return False
    if min(price for told in (rows, columns) for row in told for price in row) < 0:
        return False
    return all(w[i][j] <= most + sum(rows[i][k] * (u[k][j] - u[i][j]) for k in range(height))
               + sum(columns[j][k] * (v[i][k] - v[i][j]) for k in range(width))
               for i, j in product(range(height), range(width)))


def own_over_under(steps, days):
    """All over and all under, by the sums of [25]."""
    over, under = [Fraction(0)] * (steps + 1), [Fraction(0)] * (steps + 1)
    half = Fraction(1, 2 * steps)
    for mix, rain in days:
        for g, part in enumerate(numbers(mix)):
            over[g] += part * (rain - Fraction(g, steps) - half)
            under[g] += part * (Fraction(g, steps) - half - rain)
    return over, under


def some_days(source, steps, many):
    """Some told days."""
    return tuple((pairs(*some_mix(source, steps + 1)), source.randrange(2)) for _ in range(many))


def all_plans(table, levels):
    """All plans for a table."""
    width, sizes = len(table[0]), [len(table[0]) ** at for at in range(levels)]
    for rows in product(range(len(table)), repeat=sum(sizes)):
        plan, at = [], 0
        for size in sizes:
            plan.append(rows[at:at + size])
            at += size
        yield tuple(plan)
    assert width == len(table[0])


def some_plan(source, table, levels):
    """Some plan for a table."""
    return tuple(tuple(source.randrange(len(table)) for _ in range(len(table[0]) ** at)) for at in range(levels))


def row_behind(plan, columns, width):
    """The row that a plan plays behind some columns."""
    order = {behind: at for at, behind in enumerate(product(range(width), repeat=len(columns)))}
    return plan[len(columns)][order[tuple(columns)]]


def own_rows(table, plan, columns):
    return [row_behind(plan, columns[:at], len(table[0])) for at in range(len(plan))]


def own_gain(table, plan, columns):
    return sum(number(table[row][column]) for row, column in zip(own_rows(table, plan, columns), columns))


def own_regret(table, plan, columns):
    return max(sum(number(row[column]) for column in columns) for row in table) - own_gain(table, plan, columns)


def own_worst(table, plan):
    """The greatest regret and the first columns that have it."""
    told = [(own_regret(table, plan, columns), columns)
            for columns in product(range(len(table[0])), repeat=len(plan))]
    most = max(regret for regret, _ in told)
    return most, next(columns for regret, columns in told if regret == most)


def own_wrong(telling, rains):
    """By how much a telling is wrong along rains."""
    sums = {}
    for at, rain in enumerate(rains):
        order = list(product(range(2), repeat=at))
        chance = number(telling[at][order.index(tuple(rains[:at]))])
        sums[chance] = sums.get(chance, Fraction(0)) + rain - chance
    return sum((abs(value) for value in sums.values()), Fraction(0))

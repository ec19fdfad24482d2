"""What the tests share: fractions both ways, wrong values of every kind, seeded examples, and own reckonings."""

import random
from fractions import Fraction
from itertools import combinations


def pair(number):
    """A number as the package tells it."""
    number = Fraction(number)
    return (number.numerator, number.denominator)


def pairs(*numbers):
    """Some numbers as the package tells them."""
    return tuple(pair(number) for number in numbers)


def grid(rows):
    """Rows of numbers as the package tells them."""
    return tuple(pairs(*row) for row in rows)


def number(told):
    """What the package tells, as a Fraction; it has to be a fraction in its form."""
    assert type(told) is tuple and len(told) == 2, told
    assert type(told[0]) is int and type(told[1]) is int and told[1] > 0, told
    found = Fraction(told[0], told[1])
    assert (found.numerator, found.denominator) == told, told
    return found


def numbers(told):
    """A told tuple of fractions as Fractions."""
    assert type(told) is tuple, told
    return [number(element) for element in told]


def plain(table):
    """A told table as rows of Fractions."""
    return [numbers(row) for row in table]


def dot(one, two):
    """The sum of the products of both."""
    return sum((a * b for a, b in zip(one, two, strict=True)), Fraction(0))


def turned(rows):
    """Rows and columns exchanged."""
    return [list(column) for column in zip(*rows)]


class Bare:
    """An object that has nothing to do with the package."""


def strange():
    """Values that are neither tuples nor anything that the package takes."""
    return [None, True, False, 0, 1, -7, 10 ** 60, "", "x", "12", b"", b"12", [], [1, 2], [(1, 2), (1, 2)], {}, {0: 1},
            {(0, 1): (1, 1)}, set(), {1, 2}, frozenset([(0, 1)]), range(2), Fraction(1, 2), Bare(), Bare, len,
            lambda: (0, 1)]


def wrong_fractions():
    """Values that are no fractions."""
    return strange() + [
        (), (1,), (0,), (1, 2, 3), ((0, 1),), ((0, 1), (1, 1)), [0, 1], [1, 2], (0, 2), (0, 0), (0, -1), (2, 4),
        (3, 3), (-2, 4), (1, 0), (-1, 0), (1, -2), (-1, -2), (True, 1), (1, True), (False, 1), (0, True), (1, None),
        (None, 1), ("1", 2), (1, "2"), (b"1", 2), ([1], 2), ((1,), 2), (1, (2,)), (Fraction(1), 2),
        (6 * 10 ** 80, 4 * 10 ** 80)]


def seeded(seed):
    """A source of examples that are the same in each run."""
    return random.Random(seed)


def some_fraction(source, size=6, below=5):
    """Some fraction, as a Fraction."""
    return Fraction(source.randint(-size, size), source.randint(1, below))


def some_mix(source, many):
    """Some mix as Fractions, quite often with parts that are 0."""
    weights = [source.choice([0, 1, 2, 3, 5]) for _ in range(many)]
    if not any(weights):
        weights[source.randrange(many)] = 1
    return [Fraction(weight, sum(weights)) for weight in weights]


def determinant(rows):
    """By elimination, so that it shares nothing with the package."""
    rows = [list(row) for row in rows]
    found = Fraction(1)
    for at in range(len(rows)):
        pivot = next((k for k in range(at, len(rows)) if rows[k][at] != 0), None)
        if pivot is None:
            return Fraction(0)
        if pivot != at:
            rows[at], rows[pivot] = rows[pivot], rows[at]
            found = -found
        found *= rows[at][at]
        for k in range(at + 1, len(rows)):
            share = rows[k][at] / rows[at][at]
            rows[k] = [a - share * b for a, b in zip(rows[k], rows[at])]
    return found


def cofactor_sum(rows):
    """The sum of all cofactors of a square part."""
    found = Fraction(0)
    for i in range(len(rows)):
        for j in range(len(rows)):
            rest = [row[:j] + row[j + 1:] for row in rows[:i] + rows[i + 1:]]
            found += (-1) ** (i + j) * (determinant(rest) if rest else 1)
    return found


def part_worths(rows):
    """The determinants of all square parts over the sums of their cofactors, where these are not 0."""
    found = set()
    for size in range(1, min(len(rows), len(rows[0])) + 1):
        for chosen in combinations(range(len(rows)), size):
            for places in combinations(range(len(rows[0])), size):
                part = [[rows[i][j] for j in places] for i in chosen]
                under = cofactor_sum(part)
                if under != 0:
                    found.add(determinant(part) / under)
    return found


def feasible(rows):
    """Whether some place has a x + b y <= c for all rows (a, b, c, strict), < where it is strict.

    By elimination of y, then of x (Fourier, Motzkin); no lines are crossed and no feet are looked for.
    """
    above = [row for row in rows if row[1] > 0]
    under = [row for row in rows if row[1] < 0]
    left = [(a, c, strict) for a, b, c, strict in rows if b == 0]
    for a, b, c, strict in above:
        for d, e, f, sharp in under:
            left.append((a * -e + d * b, c * -e + f * b, strict or sharp))
    return feasible_line(left)


def feasible_line(rows):
    """Whether some x has a x <= c for all rows (a, c, strict)."""
    bare = [(c, strict) for a, c, strict in rows if a == 0]
    if any(c < 0 or (strict and c == 0) for c, strict in bare):
        return False
    tops = [(c / a, strict) for a, c, strict in rows if a > 0]
    floors = [(c / a, strict) for a, c, strict in rows if a < 0]
    return all(low < high or (low == high and not strict and not sharp)
               for high, strict in tops for low, sharp in floors)


def rows_of_field(field):
    """A told field for `feasible`."""
    return [(*numbers(side), False) for side in field]


def inside(field, spot):
    """Whether a place, as Fractions, is in a told field."""
    return all(a * spot[0] + b * spot[1] <= c for a, b, c, _ in rows_of_field(field))


def opposite_strictly(side):
    """The places that are not in a told side, for `feasible`."""
    a, b, c = numbers(side)
    return (-a, -b, -c, True)


def some_field(source, sides=None):
    """Some told field, quite often with opposite, doubled or parallel sides and with lines through one place."""
    found = []
    for _ in range(sides or source.randint(1, 5)):
        kind = source.randrange(6)
        if found and kind == 0:
            a, b, c = source.choice(found)
            found.append((-a, -b, -c + source.choice([0, 0, 1, -1])))
        elif found and kind == 1:
            share = Fraction(source.randint(1, 4), source.randint(1, 3))
            a, b, c = source.choice(found)
            found.append((a * share, b * share, c * share + source.choice([0, 1])))
        else:
            a, b = 0, 0
            while a == 0 and b == 0:
                a, b = some_fraction(source, 2, 2), some_fraction(source, 2, 2)
            c = Fraction(0) if kind == 2 else some_fraction(source, 3, 2)
            found.append((a, b, c))
    return tuple(pairs(*side) for side in found)

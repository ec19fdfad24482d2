"""What the tests of games reckon by themselves, with Fractions: worths, excesses, led or barred, nearest pairs.

Whether two sides are kept together is settled here by one polynomial, the product of all determinants, and its
sequence of Sturm: nothing of it is shared with the package.
"""

from fractions import Fraction
from itertools import combinations

from steermeans.fields import distance_square, is_empty, nearest
from tests.helper import determinant, dot, number, numbers, pair, pairs, some_field, some_fraction, some_mix

ONE, NIL = Fraction(1), Fraction(0)


def told_game(rows):
    """A game of pairs of numbers as the package takes it."""
    return tuple(tuple(pairs(*place) for place in row) for row in rows)


def spots(game):
    """A told game as rows of pairs of Fractions."""
    return [[tuple(numbers(place)) for place in row] for row in game]


def some_game(source, height=None, width=None, size=3, below=2):
    """Some told game."""
    height, width = height or source.randint(1, 3), width or source.randint(1, 3)
    return told_game([[(some_fraction(source, size, below), some_fraction(source, size, below)) for _ in range(width)]
                      for _ in range(height)])


def some_full_field(source, sides=None):
    """Some told field that is not empty."""
    while True:
        field = some_field(source, sides)
        if not is_empty(field):
            return field


def mean(weights, places):
    """The mean of places by weights, Fractions."""
    return (dot(weights, [x for x, _ in places]), dot(weights, [y for _, y in places]))


def beside(game, mix):
    """Each row's worth beside a mix of columns, Fractions."""
    return [mean(mix, row) for row in spots(game)]


def against(game, mix):
    """Each column's worth beside a mix of rows, Fractions."""
    return [mean(mix, column) for column in zip(*spots(game))]


def over(side, place):
    """How far a place is over a told side."""
    a, b, c = numbers(side)
    return a * place[0] + b * place[1] - c


def excess_rows(game, side):
    """The excess of a side, rows of Fractions."""
    return [[over(side, place) for place in row] for row in spots(game)]


def tilted_rows(one, two, share):
    """1 - share times a table and share times another one."""
    return [[(1 - share) * a + share * b for a, b in zip(row, other)] for row, other in zip(one, two)]


def greatest_least(rows):
    """The worth of a table: the greatest, over the mixes that square parts give, of the least row."""
    best = None
    for size in range(1, min(len(rows), len(rows[0])) + 1):
        for chosen in combinations(range(len(rows)), size):
            for places in combinations(range(len(rows[0])), size):
                part = [[rows[i][j] for j in places] for i in chosen]
                weights = [determinant([row[:j] + [ONE] + row[j + 1:] for row in part]) for j in range(size)]
                if sum(weights) != 0 and min(weight / sum(weights) for weight in weights) >= 0:
                    mix = [weight / sum(weights) for weight in weights]
                    least = min(dot(mix, [row[j] for j in places]) for row in rows)
                    best = least if best is None or least > best else best
    return best


def trim(poly):
    """A polynomial, its number of degree 0 first, without needless numbers 0."""
    poly = list(poly)
    while poly and poly[-1] == 0:
        poly.pop()
    return poly


def product(one, two):
    found = [NIL] * (len(one) + len(two) - 1)
    for i, a in enumerate(one):
        for j, b in enumerate(two):
            found[i + j] += a * b
    return found


def total(one, two):
    longer = max(len(one), len(two))
    return [a + b for a, b in zip(one + [NIL] * (longer - len(one)), two + [NIL] * (longer - len(two)))]


def divided(poly, factor):
    """Quotient and rest."""
    rest, found = trim(poly), [NIL] * max(1, len(poly) - len(factor) + 1)
    while len(rest) >= len(factor):
        share, start = rest[-1] / factor[-1], len(rest) - len(factor)
        found[start] = share
        for at, told in enumerate(factor):
            rest[start + at] -= share * told
        rest = trim(rest)
    return trim(found), rest


def common(one, two):
    """The greatest common divisor of two polynomials."""
    while two:
        one, two = two, [told / abs(two[-1]) for told in divided(one, two)[1]]
    return [told / one[-1] for told in one]


def slope(poly):
    return trim([at * told for at, told in enumerate(poly)][1:])


def value(poly, x):
    found = NIL
    for told in reversed(poly):
        found = found * x + told
    return found


def poly_determinant(rows):
    """The determinant of rows of polynomials."""
    if len(rows) == 1:
        return rows[0][0]
    found = [NIL]
    for at, told in enumerate(rows[0]):
        part = product(told, poly_determinant([row[:at] + row[at + 1:] for row in rows[1:]]))
        found = total(found, part if at % 2 == 0 else [-share for share in part])
    return found


def part_product(one, two):
    """A polynomial without doubled roots that is 0 where the determinant of some part of the tilted table is 0."""
    rows = [[[a, b - a] for a, b in zip(row, other)] for row, other in zip(one, two)]
    found = [ONE]
    for size in range(1, min(len(rows), len(rows[0])) + 1):
        for chosen in combinations(range(len(rows)), size):
            for places in combinations(range(len(rows[0])), size):
                part = trim(poly_determinant([[rows[i][j] for j in places] for i in chosen]))
                if len(part) > 1:
                    part = divided(part, common(part, slope(part)))[0]
                    found = product(found, divided(part, common(found, part))[0])
    return found


class Sturm:
    """Counts the roots of a polynomial without doubled roots."""

    def __init__(self, poly):
        self.row = [poly, slope(poly)]
        while len(self.row[-1]) > 1:
            rest = divided(self.row[-2], self.row[-1])[1]
            self.row.append([-told / abs(rest[-1]) for told in rest])

    def changes(self, x):
        signs = [told > 0 for told in (value(poly, x) for poly in self.row) if told != 0]
        return sum(one != two for one, two in zip(signs, signs[1:]))

    def between(self, low, high):
        """How many roots are above low, up to high."""
        return self.changes(low) - self.changes(high)


def shares_between(one, two):
    """A share between each two neighbours of 0, 1 and the numbers at which some determinant is 0."""
    poly = part_product(one, two)
    for end in (NIL, ONE):
        if len(poly) > 1 and value(poly, end) == 0:
            poly = divided(poly, [-end, ONE])[0]
    if len(poly) < 2:
        return [Fraction(1, 2)]
    sturm = Sturm(poly)

    def cuts(low, high):
        """Places that are no roots, such that at most one root is between each two neighbours, ends included."""
        if sturm.between(low, high) <= 1 and high - low < 1:
            return []
        middle = (low + high) / 2
        while value(poly, middle) == 0:
            middle = (middle + high) / 2
        return cuts(low, middle) + [middle] + cuts(middle, high)

    marks = cuts(NIL, ONE)
    low, high = marks[0], marks[-1]
    while sturm.between(NIL, low) > 0 or value(poly, low) == 0:
        low = low / 2
    while sturm.between(high, ONE) > 0 or value(poly, high) == 0:
        high = (high + 1) / 2
    return [low] + marks + [high]


def lifting_share(one, two):
    """A share at which the tilted table has a worth above 0; None."""
    for share in [NIL, ONE] + shares_between(one, two):
        if greatest_least(tilted_rows(one, two, share)) > 0:
            return share
    return None


def can_be_led(game, field):
    """Whether no two sides of a told field bar it."""
    tables = [excess_rows(game, side) for side in field]
    chosen = list(combinations(tables, 2)) if len(tables) > 1 else [(tables[0], tables[0])]
    return all(lifting_share(one, two) is None for one, two in chosen)


def is_shown(game, field, mix, weights):
    """Whether weights show that a mix of columns bars: told mix and weights, own sums."""
    parts, shares = numbers(mix), numbers(weights)
    if len(parts) != len(game[0]) or sum(parts) != 1 or min(parts) < 0:
        return False
    if len(shares) != len(field) or min(shares) < 0 or max(shares) == 0:
        return False
    return all(sum(share * over(side, place) for share, side in zip(shares, field)) > 0
               for place in beside(game, parts))


def is_mix(mix, many):
    """Whether what was told is a mix of so many."""
    parts = numbers(mix)
    return len(parts) == many and min(parts) >= 0 and sum(parts) == 1


def inside(field, place):
    """Whether a place, as Fractions, is in a told field."""
    return all(over(side, place) <= 0 for side in field)


def nearest_of(field, place):
    """The nearest place, as Fractions."""
    return tuple(numbers(nearest(field, pairs(*place))))


def square(one, two):
    return (one[0] - two[0]) ** 2 + (one[1] - two[1]) ** 2


def facing(y, z, worth):
    """(y - z) . (worth - z)."""
    return (y[0] - z[0]) * (worth[0] - z[0]) + (y[1] - z[1]) * (worth[1] - z[1])


def hull_spots(places, corners):
    """The places themselves, and the feet of corners between two of them."""
    found = list(places)
    for one, two in combinations(places, 2):
        size = square(one, two)
        for corner in corners:
            share = facing(two, one, corner) / size if size else NIL
            if 0 < share < 1:
                found.append(mean([1 - share, share], [one, two]))
    return found


def nearest_pair(field, places, corners):
    """A mean of places and the nearest place of a field it misses, such that a line keeps all means apart from it."""
    for spot in hull_spots(places, corners):
        near = nearest_of(field, spot)
        if spot != near and all(facing(spot, near, place) >= square(spot, near) for place in places):
            return spot, near
    return None


def played(game, plays):
    """The worths of told rounds."""
    return [against(game, numbers(mix))[column] for mix, column in plays]


def means(worths):
    """The means of the first one, two, three .. worths."""
    return [mean([Fraction(1, many)] * many, worths[:many]) for many in range(1, len(worths) + 1)]


def guides(game, field, place, mix):
    """Whether a told mix guides at a place, by own sums."""
    z = nearest_of(field, place)
    return all(facing(place, z, worth) <= 0 for worth in against(game, numbers(mix)))


def told_distance(field, place):
    """The square of the distance, as a Fraction."""
    return number(distance_square(field, pairs(*place)))


def some_plays(source, game, many):
    """Some told plays of so many rounds."""
    return tuple((pairs(*some_mix(source, len(game))), source.randrange(len(game[0]))) for _ in range(many))


def moved(field, widths, share):
    """A told field with each C and share times its width."""
    return tuple((a, b, pair(number(c) + share * number(width))) for (a, b, c), width in zip(field, widths))

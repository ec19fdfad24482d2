"""The roots above 0 of polynomials of degree one to three with whole numbers, and fractions between them.

A polynomial is a tuple of its numbers, that of degree 0 first. Roots are told by their floors: the greatest whole
numbers that are not above them, times a power of two. Where two roots have floors that are far enough apart, a
fraction between both is known; where they have not, a greater power of two tells them apart, as no two are alike.
"""

from math import gcd, isqrt

from steermeans.ratios import ratio


def trimmed(numbers):
    """The polynomial with the same roots but 0: no common divisor, the last number above 0; () for 0."""
    shared = 0
    for number in numbers:
        shared = gcd(shared, number)
    if shared == 0:
        return ()
    kept = [at for at, number in enumerate(numbers) if number != 0]
    if numbers[kept[-1]] < 0:
        shared = -shared
    return tuple([number // shared for number in numbers[kept[0]:kept[-1] + 1]])


def quotient(poly, factor):
    """A polynomial divided by another one; None if something is left."""
    rest = list(poly)
    found = []
    while len(rest) >= len(factor):
        many, left = divmod(rest[-1], factor[-1])
        if left != 0:
            return None
        found = [many] + found
        start = len(rest) - len(factor)
        for at, number in enumerate(factor):
            rest[start + at] -= many * number
        rest.pop()
    if found == [] or any(rest):
        return None
    return tuple(found)


def cubic_spread(poly):
    """The discriminant of a polynomial of degree three: above 0 exactly if it has three unlike roots."""
    d, c, b, a = poly
    return b * b * c * c - 4 * a * c * c * c - 4 * b * b * b * d - 27 * a * a * d * d + 18 * a * b * c * d


def split_square(poly):
    """The factors that have all real roots of a polynomial of degree two, each once."""
    c, b, a = poly
    spread = b * b - 4 * a * c
    if spread < 0:
        return []
    root = isqrt(spread)
    if root * root != spread:
        return [poly]
    return [trimmed((b - root, 2 * a)), trimmed((b + root, 2 * a))]


def split_cubic(poly):
    """The factors that have all real roots of a polynomial of degree three, each once; doubled roots are fractions."""
    if cubic_spread(poly) != 0:
        return [poly]
    d, c, b, a = poly
    turn = b * b - 3 * a * c
    if turn == 0:
        return [trimmed((b, 3 * a))]
    doubled = trimmed((b * c - 9 * a * d, 2 * turn))
    single = trimmed((b * b * b + 9 * a * a * d - 4 * a * b * c, a * turn))
    return [doubled, single]


def split(poly):
    """Factors that have all roots above 0 of a trimmed polynomial, each once."""
    if len(poly) < 2 or min(poly) >= 0:
        return []
    if len(poly) == 2:
        return [poly]
    factors = split_square(poly) if len(poly) == 3 else split_cubic(poly)
    return [factor for factor in factors if min(factor) < 0]


def without(poly, factors):
    """A polynomial less all of some factors that it has."""
    for factor in factors:
        found = quotient(poly, factor)
        while found is not None:
            poly = found
            found = quotient(poly, factor)
    return poly


def unlike_factors(polys):
    """Polynomials without a common root that have all roots above 0 of some, of which one at most has degree three."""
    found = {}
    cubics = []
    for numbers in polys:
        poly = trimmed(numbers)
        if len(poly) == 4:
            cubics.append(poly)
        else:
            for factor in split(poly):
                found[factor] = True
    for poly in cubics:
        # those found so far are linear, or have no root that is a fraction: they divide it, or share no root with it
        factors = split(without(poly, list(found)))
        for factor in factors:
            found[factor] = True
    return list(found)


def roots_above(poly):
    """How many roots above 0 a polynomial without doubled roots has (Descartes; all its roots are real, or one is)."""
    signs = [number > 0 for number in poly if number != 0]
    changes = sum([1 for one, two in zip(signs, signs[1:]) if one != two])
    if len(poly) == 4 and cubic_spread(poly) < 0:
        return changes % 2
    return changes


def square_floors(poly, bits):
    """The floors of the roots from 0 on of a polynomial of degree two whose roots are real, but no fractions."""
    c, b, a = poly
    middle = -(b << bits)
    size = (b * b - 4 * a * c) << (2 * bits)
    root = isqrt(size)
    return [found for found in [(middle - root - 1) // (2 * a), (middle + root) // (2 * a)] if found >= 0]


def turning_floors(poly, bits):
    """The floors around which a polynomial of degree three may turn, among those from 0 on."""
    _, c, b, a = poly
    slope = (c, 2 * b, 3 * a)
    return [] if b * b - 3 * a * c <= 0 else square_floors(slope, bits)


def value_at(numbers, at):
    """What a polynomial has at a whole number."""
    found = 0
    for number in reversed(numbers):
        found = found * at + number
    return found


def floor_between(numbers, low, high):
    """The floor of the one root above low, up to high, of a polynomial with a sign at low that it has not at high."""
    above = value_at(numbers, low) > 0
    while low < high:
        middle = (low + high + 1) // 2
        told = value_at(numbers, middle)
        if told == 0 or (told > 0) == above:
            low = middle
        else:
            high = middle - 1
    return low


def cubic_floors(poly, bits):
    """The floors of roots above 0 of a polynomial of degree three: some are missing if they are too near."""
    numbers = [number << (bits * (3 - at)) for at, number in enumerate(poly)]
    marks = [0, (max([abs(number) for number in poly]) // poly[3] + 2) << bits]
    for turning in turning_floors(poly, bits):
        marks += [turning, turning + 1]
    marks = sorted(set(marks))
    found = []
    for low, high in zip(marks, marks[1:]):
        first = value_at(numbers, low)
        last = value_at(numbers, high)
        if first != 0 and (last == 0 or (first > 0) != (last > 0)):
            found.append(floor_between(numbers, low, high))
    return found


def floors(poly, bits):
    """The floors of the roots above 0 of a polynomial of unlike_factors, times a power of two."""
    if len(poly) == 2:
        return [-(poly[0] << bits) // poly[1]]
    return square_floors(poly, bits) if len(poly) == 3 else cubic_floors(poly, bits)


def plainest(low, high):
    """The whole number above low, up to high, with most zeros at its end in the scale of two."""
    shift = (low ^ high).bit_length() - 1
    return (high >> shift) << shift


def fractions_between(polys):
    """A fraction between each two neighbours of 0 and the roots above 0 of some polynomials, and one above them."""
    factors = unlike_factors(polys)
    many = sum([roots_above(poly) for poly in factors])
    bits = 0
    while True:
        marks = [0] + sorted([mark for poly in factors for mark in floors(poly, bits)])
        pairs = list(zip(marks, marks[1:]))
        if len(pairs) == many and all([low + 2 <= high for low, high in pairs]):
            # a root is below its floor and 1: so what is above a floor, up to the next one less 1, is between both
            tops = [plainest(low, high - 1) for low, high in pairs] + [1 << marks[-1].bit_length()]
            return [ratio(top, 1 << bits) for top in tops]
        bits = 2 * bits + 4

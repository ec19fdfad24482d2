"""Fields: all places that lie in each of one to five sides.

A side in whole numbers (a, b, c) stands for a x + b y <= c. A spot (x, y, scale), whole numbers with scale above 0,
stands for the place (x / scale, y / scale), so that nothing has to be divided on the way.
"""

from itertools import combinations

from steermeans.errors import EmptyField, InvalidField
from steermeans.forms import check_place, is_side, is_tuple_of
from steermeans.ratios import at_most, common_scale, ratio, scaled


def is_field(value):
    """Whether a value, whatever it is, is a field."""
    return is_tuple_of(value, 1, 5) and all([is_side(side) for side in value])


def check_field(field):
    """Raise InvalidField for what is no field."""
    if not is_field(field):
        raise InvalidField(field)


def check_not_empty(field):
    """Raise EmptyField for a field without a place."""
    if holds_nothing(whole_sides(field)):
        raise EmptyField()


def whole_sides(field):
    """The sides of a field, each times a number above 0 that makes it whole."""
    found = []
    for side in field:
        scale = common_scale(side)
        found.append([scaled(number, scale) for number in side])
    return found


def spot_of(place):
    """A place in whole numbers."""
    scale = common_scale(place)
    return (scaled(place[0], scale), scaled(place[1], scale), scale)


def place_at(spot):
    """The place of a spot, told by fractions."""
    x, y, scale = spot
    return (ratio(x, scale), ratio(y, scale))


def holds(sides, spot):
    """Whether a spot lies in each side."""
    x, y, scale = spot
    return all([a * x + b * y <= c * scale for a, b, c in sides])


def crossing(one, two):
    """The one common spot of the lines of two sides; None if there is none, or more than one."""
    a, b, c = one
    d, e, f = two
    scale = a * e - d * b
    if scale == 0:
        return None
    x = c * e - f * b
    y = a * f - d * c
    if scale < 0:
        return (-x, -y, -scale)
    return (x, y, scale)


def corner_spots(sides):
    """The spots of the corners, those where more than two lines meet several times."""
    crossings = [crossing(one, two) for one, two in combinations(sides, 2)]
    return [spot for spot in crossings if spot is not None and holds(sides, spot)]


def foot(side, spot):
    """The spot on a side's line that is nearest to a spot."""
    a, b, c = side
    x, y, scale = spot
    size = a * a + b * b
    over = a * x + b * y - c * scale
    return (x * size - over * a, y * size - over * b, scale * size)


def foot_spots(sides, spot):
    """The feet of a spot that lie in each side."""
    feet = [foot(side, spot) for side in sides]
    return [found for found in feet if holds(sides, found)]


def square_between(one, two):
    """The square of the distance of two spots, a fraction."""
    x, y, scale = one
    u, v, other = two
    along = x * other - u * scale
    across = y * other - v * scale
    return ratio(along * along + across * across, scale * scale * other * other)


def nearest_spot(sides, spot):
    """The nearest of all spots that lie in each side; None if there is none."""
    if holds(sides, spot):
        return spot
    best = None
    least = None
    for found in foot_spots(sides, spot) + corner_spots(sides):
        square = square_between(found, spot)
        if least is None or not at_most(least, square):
            best = found
            least = square
    return best


def holds_nothing(sides):
    """Whether no spot lies in each side: then none is the nearest to any spot."""
    return nearest_spot(sides, (0, 0, 1)) is None


def is_empty(field):
    """Whether no place lies in a field."""
    check_field(field)
    return holds_nothing(whole_sides(field))


def is_in(field, place):
    """Whether a place lies in a field."""
    check_field(field)
    check_place(place)
    return holds(whole_sides(field), spot_of(place))


def corners(field):
    """The corners of a field, in the order in which Python compares tuples."""
    check_field(field)
    check_not_empty(field)
    return tuple(sorted(set([place_at(spot) for spot in corner_spots(whole_sides(field))])))


def nearest_to(field, place):
    """The spots of a place and of the nearest place of a field, both arguments being checked."""
    check_field(field)
    check_place(place)
    spot = spot_of(place)
    found = nearest_spot(whole_sides(field), spot)
    if found is None:
        raise EmptyField()
    return spot, found


def nearest(field, place):
    """The one place of a field that is nearest to a place."""
    _, found = nearest_to(field, place)
    return place_at(found)


def distance_square(field, place):
    """The square of the distance of a place from a field."""
    spot, found = nearest_to(field, place)
    return square_between(spot, found)


def is_told_by_one(line, side):
    """Whether a multiple of one side, from 0 on, tells that a side holds."""
    a, b, c = line
    d, e, f = side
    along = a * d + b * e
    return a * e == b * d and along > 0 and along * c <= f * (a * a + b * b)


def is_told_by_two(one, two, side):
    """Whether multiples of two sides, from 0 on, tell together that a side holds."""
    spot = crossing(one, two)
    if spot is None:
        return False
    a, b, c = one
    d, e, f = two
    g, h, _ = side
    turn = 1 if a * e - d * b > 0 else -1
    # both multiples, times the determinant; they exist once for each side, as the lines cross
    first = (g * e - h * d) * turn
    second = (a * h - b * g) * turn
    return first >= 0 and second >= 0 and holds([side], spot)


def is_told(sides, side):
    """Whether a side holds all places of sides that have a common one: two of them tell it, or one ([10])."""
    if any([is_told_by_one(line, side) for line in sides]):
        return True
    return any([is_told_by_two(one, two, side) for one, two in combinations(sides, 2)])


def lies_within(field, other):
    """Whether all places of a field lie in another one."""
    check_field(field)
    check_field(other)
    check_not_empty(field)
    check_not_empty(other)
    sides = whole_sides(field)
    return all([is_told(sides, side) for side in whole_sides(other)])

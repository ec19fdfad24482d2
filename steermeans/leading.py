"""Which fields can be led into, what bars the others, and what answers each mix of columns."""

from itertools import combinations

from steermeans.fields import check_field, check_not_empty, spot_of, whole_sides
from steermeans.forms import check_mix, check_number, check_side, check_widths
from steermeans.games import check_game, excess_table, over, worths_beside
from steermeans.hulls import square_to_hull
from steermeans.ratios import ratio, times
from steermeans.solving import keeping, mix_of, solution, whole_table
from steermeans.tilting import lifting
from steermeans.widening import least_level


def two_at_a_time(many):
    """The pairs of indexes of so many sides, one alone being taken twice."""
    return list(combinations(range(many), 2)) if many > 1 else [(0, 0)]


def found_bar(game, field):
    """A mix of columns that bars a field that is not empty, and weights that show it; None if it can be led into."""
    tables = [whole_table(excess_table(game, side)) for side in field]
    for at, other in two_at_a_time(len(field)):
        found = lifting(tables[at][0], tables[other][0])
        if found is not None:
            first, second, high = found
            weights = [0] * len(field)
            weights[at] += first * tables[at][1]
            weights[other] += second * tables[other][1]
            return mix_of(high), mix_of(weights)
    return None


def check_game_and_field(game, field):
    """Raise the errors of a game and of a field, but not that of an empty one."""
    check_game(game)
    check_field(field)


def is_led(game, field):
    """Whether a field can be led into."""
    check_game_and_field(game, field)
    check_not_empty(field)
    return found_bar(game, field) is None


def bar(game, field):
    """A pair of a mix of columns that bars a field and weights that show it; None."""
    check_game_and_field(game, field)
    check_not_empty(field)
    return found_bar(game, field)


def sides_beside(game, field, mix):
    """The table of how far each row's worth beside a mix of columns is over each side, all arguments being checked."""
    check_game_and_field(game, field)
    check_mix(mix, len(game[0]))
    check_not_empty(field)
    return tuple([tuple([over(side, place) for side in field]) for place in worths_beside(game, mix)])


def answer(game, field, mix):
    """A mix of rows that answers a mix of columns; None."""
    return keeping(sides_beside(game, field, mix))


def weights_beside(game, field, mix):
    """Weights that show that a mix of columns bars a field; None."""
    most, _, high = solution(sides_beside(game, field, mix))
    return high if most[0] > 0 else None


def kept_square(game, field, mix):
    """The square of the least distance from a field of what mixes of rows have beside a mix of columns."""
    if answer(game, field, mix) is not None:
        return (0, 1)
    return square_to_hull(whole_sides(field), [spot_of(place) for place in worths_beside(game, mix)])


def keeping_mix(game, side):
    """A mix of rows whose worths with all columns are in a side; None."""
    check_game(game)
    check_side(side)
    return keeping(excess_table(game, side))


def is_kept(game, side):
    """Whether a half plane can be led into."""
    return keeping_mix(game, side) is not None


def barring_share(game, one, two):
    """A share at which the tilted table of two sides has a worth above 0; None."""
    check_game(game)
    check_side(one)
    check_side(two)
    first, scale = whole_table(excess_table(game, one))
    second, scaling = whole_table(excess_table(game, two))
    found = lifting(first, second)
    if found is None:
        return None
    return mix_of((found[0] * scale, found[1] * scaling))[1]


def least_widening(game, field, widths, many):
    """The least whole number of parts of widths, of MANY each, by which the sides have to be moved to be led into."""
    check_game_and_field(game, field)
    check_widths(widths, len(field))
    check_number(many, 1, 1000)
    check_not_empty(field)
    sides = []
    for side, width in zip(field, widths):
        unit = ratio(many * width[1], width[0])
        sides.append(whole_table([[times(unit, number) for number in row] for row in excess_table(game, side)]))
    found = 0
    for at, other in two_at_a_time(len(field)):
        found = least_level(sides[at], sides[other], found)
    return found

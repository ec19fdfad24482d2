"""Games: for each row and each column a place. Worths of mixes, and how far sides are exceeded."""

from steermeans.errors import InvalidGame
from steermeans.forms import check_mix, check_share, check_side, is_place, is_tuple_of
from steermeans.ratios import minus, plus, times, weighted


def is_game(value):
    """Whether a value, whatever it is, is a game."""
    if not is_tuple_of(value, 1, 3):
        return False
    if not all([is_tuple_of(row, 1, 3) and all([is_place(told) for told in row]) for row in value]):
        return False
    return all([len(row) == len(value[0]) for row in value])


def check_game(game):
    """Raise InvalidGame for what is no game."""
    if not is_game(game):
        raise InvalidGame(game)


def mean_place(mix, places):
    """The mean of some places, each counted by its part of a mix."""
    return (weighted(mix, [place[0] for place in places]), weighted(mix, [place[1] for place in places]))


def worths_of_column(game, column):
    """The worths that the rows have with a column."""
    return [row[column] for row in game]


def worths_beside(game, mix):
    """Each row's worth beside a mix of columns."""
    return tuple([mean_place(mix, row) for row in game])


def worths_against(game, mix):
    """Each column's worth beside a mix of rows."""
    return tuple([mean_place(mix, worths_of_column(game, column)) for column in range(len(game[0]))])


def over(side, place):
    """How far a place is over a side: A x + B y - C."""
    return minus(plus(times(side[0], place[0]), times(side[1], place[1])), side[2])


def excess_table(game, side):
    """How far each worth is over a side, A and B perhaps being 0."""
    return tuple([tuple([over(side, place) for place in row]) for row in game])


def worth_of(game, mix, other):
    """The worth of a mix of rows and a mix of columns."""
    check_game(game)
    check_mix(mix, len(game))
    check_mix(other, len(game[0]))
    return mean_place(mix, worths_beside(game, other))


def row_worths(game, mix):
    """Each row's worth beside a mix of columns."""
    check_game(game)
    check_mix(mix, len(game[0]))
    return worths_beside(game, mix)


def column_worths(game, mix):
    """Each column's worth beside a mix of rows."""
    check_game(game)
    check_mix(mix, len(game))
    return worths_against(game, mix)


def turned(game):
    """The game with rows and columns exchanged."""
    check_game(game)
    return tuple([tuple(worths_of_column(game, column)) for column in range(len(game[0]))])


def excess(game, side):
    """The table of how far each worth is over a side."""
    check_game(game)
    check_side(side)
    return excess_table(game, side)


def tilted(game, one, two, share):
    """The excess of one side times the rest of a share, and that of another side times the share, together."""
    check_game(game)
    check_side(one)
    check_side(two)
    check_share(share)
    parts = (minus((1, 1), share), share)
    first = excess_table(game, one)
    second = excess_table(game, two)
    return tuple([tuple([weighted(parts, pair) for pair in zip(row, other)]) for row, other in zip(first, second)])

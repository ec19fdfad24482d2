"""Plays of games: their means, the way that leads into fields, and how far off it can be."""

from itertools import combinations

from steermeans.errors import InvalidPlays, NotLed
from steermeans.fields import check_field, check_not_empty, nearest_spot, place_at, spot_of, square_between, whole_sides
from steermeans.forms import check_columns, check_mix, check_place, check_plays
from steermeans.games import check_game, excess_table, mean_place, worths_against, worths_of_column
from steermeans.leading import found_bar
from steermeans.ratios import greatest_of, minus, plus, times, total
from steermeans.solving import plain_keeping


def round_worths(game, plays):
    """The worth of each round."""
    return [mean_place(mix, worths_of_column(game, column)) for mix, column in plays]


def running_means(worths):
    """The means of the first one, the first two, the first three of some worths, and so on."""
    x, y = (0, 1), (0, 1)
    means = []
    for many, (more, higher) in enumerate(worths, start=1):
        x = plus(x, more)
        y = plus(y, higher)
        means.append((times((1, many), x), times((1, many), y)))
    return means


def near_place(field, place):
    """The nearest place of a field that is not empty."""
    return place_at(nearest_spot(whole_sides(field), spot_of(place)))


def guiding_side(field, place):
    """The side through the nearest place that faces a place; 0 times all places if it is in the field."""
    near = near_place(field, place)
    a = minus(place[0], near[0])
    b = minus(place[1], near[1])
    return (a, b, plus(times(a, near[0]), times(b, near[1])))


def guides(game, field, place, mix):
    """Whether a mix of rows guides at a place, the field not being empty."""
    columns = (worths_against(game, mix),)
    table = excess_table(columns, guiding_side(field, place))
    return all([number[0] <= 0 for number in table[0]])


def some_guiding(game, field, place):
    """A mix of rows that guides at a place, the field not being empty; None."""
    return plain_keeping(excess_table(game, guiding_side(field, place)))


def check_game_and_plays(game, field, plays):
    """Raise the errors of a game, a field and plays, that of an empty field last."""
    check_game(game)
    check_field(field)
    check_plays(plays, len(game), len(game[0]))
    check_not_empty(field)


def mean_of(game, plays):
    """The mean of the worths of one round or more."""
    check_game(game)
    check_plays(plays, len(game), len(game[0]))
    if plays == ():
        raise InvalidPlays(None)
    return running_means(round_worths(game, plays))[-1]


def guiding_mix(game, field, place):
    """A mix of rows that guides at a place; None."""
    check_game(game)
    check_field(field)
    check_place(place)
    check_not_empty(field)
    return some_guiding(game, field, place)


def is_guiding(game, field, place, mix):
    """Whether a mix of rows guides at a place."""
    check_game(game)
    check_field(field)
    check_place(place)
    check_mix(mix, len(game))
    check_not_empty(field)
    return guides(game, field, place, mix)


def first_unguided(game, field, plays):
    """The index of the first round, from the second one on, whose mix does not guide; None."""
    check_game_and_plays(game, field, plays)
    means = running_means(round_worths(game, plays))
    for at, (mix, _) in enumerate(plays):
        if at > 0 and not guides(game, field, means[at - 1], mix):
            return at
    return None


def reach(field, mean, worth):
    """The square of the distance of a worth from the nearest place of a mean."""
    return square_between(spot_of(worth), spot_of(near_place(field, mean)))


def reach_sum(game, field, plays):
    """The sum of the reaches of all rounds."""
    check_game_and_plays(game, field, plays)
    worths = round_worths(game, plays)
    # the first round is measured from its own worth, as if this were the mean ahead of it
    ahead = worths[:1] + running_means(worths)[:-1]
    return total([reach(field, mean, worth) for mean, worth in zip(ahead, worths)])


def round_bound(game, field):
    """What no reach of guided plays is above, whatever the columns and the mixes are."""
    check_game(game)
    check_field(field)
    check_not_empty(field)
    spots = [spot_of(place) for row in game for place in row]
    apart = [(0, 1)] + [square_between(one, two) for one, two in combinations(spots, 2)]
    away = [reach(field, place, place) for row in game for place in row]
    return times((2, 1), plus(greatest_of(apart), greatest_of(away)))


def steered(game, field, columns):
    """Guided plays with some columns, one round for each."""
    check_game(game)
    check_field(field)
    check_columns(columns, len(game[0]), 8)
    check_not_empty(field)
    if found_bar(game, field) is not None:
        raise NotLed()
    plays = ()
    for column in columns:
        # in the first round any mix will do, also one that guides at some worth
        place = running_means(round_worths(game, plays))[-1] if plays else game[0][column]
        plays += ((some_guiding(game, field, place), column),)
    return plays

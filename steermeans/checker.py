"""The checker: whether a paper shows a claim. It looks for nothing itself where there is a paper to look at.

Arguments of claims are looked at as the functions look at theirs: what these raise errors for is no claim, or no paper.
"""

from steermeans.correlated import check_two_and_weights, gains_left, is_correlated
from steermeans.errors import MeanError
from steermeans.fields import check_not_empty
from steermeans.forms import (are_not_below_nil, check_fraction, check_mix, check_number, check_place, check_widths,
                              is_index, is_tuple_of, is_whole)
from steermeans.games import over, worths_beside
from steermeans.leading import check_game_and_field, is_led, sides_beside
from steermeans.ratios import at_most, minus, plus, ratio, times, total, weighted
from steermeans.runs import guiding_side, is_guiding
from steermeans.solving import dot, exchanged, whole_table
from steermeans.tables import columns_of, rows_of


def is_nothing(paper):
    """Whether a paper, whatever it is, is ()."""
    return is_tuple_of(paper, 0, 0)


def shows_worth(claim, paper):
    """Whether no column has more with the one mix, and no row less with the other."""
    _, table, most = claim
    check_fraction(most)
    if not is_tuple_of(paper, 2, 2):
        return False
    columns = columns_of(table, paper[0])
    rows = rows_of(table, paper[1])
    return all([at_most(number, most) for number in columns]) and all([at_most(most, number) for number in rows])


def shows_led(claim, paper):
    """Whether the field can be led into."""
    _, game, field = claim
    return is_nothing(paper) and is_led(game, field)


def outweigh(weights, rows):
    """Whether a value, whatever it is, is weights, not all 0, with which each row of fractions is above 0."""
    if not are_not_below_nil(weights, len(rows[0])):
        return False
    # with all weights 0 no row would be above 0
    return all([weighted(weights, row)[0] > 0 for row in rows])


def shows_barred(claim, paper):
    """Whether weights show that a mix of columns bars."""
    _, game, field = claim
    return is_tuple_of(paper, 2, 2) and outweigh(paper[1], sides_beside(game, field, paper[0]))


def shows_answered(claim, paper):
    """Whether a mix of rows answers the mix of columns."""
    _, game, field, mix = claim
    rows = sides_beside(game, field, mix)
    check_mix(paper, len(game))
    return all([weighted(paper, column)[0] <= 0 for column in exchanged(rows)])


def shows_unanswered(claim, paper):
    """Whether weights show that the mix of columns bars."""
    _, game, field, mix = claim
    return outweigh(paper, sides_beside(game, field, mix))


def shows_guided(claim, paper):
    """Whether a mix of rows guides at the place."""
    _, game, field, place = claim
    return is_guiding(game, field, place, paper)


def shows_unguided(claim, paper):
    """Whether, with a mix of columns, each row's worth is beyond the side through the nearest place."""
    _, game, field, place = claim
    check_game_and_field(game, field)
    check_place(place)
    check_mix(paper, len(game[0]))
    check_not_empty(field)
    side = guiding_side(field, place)
    return all([over(side, worth)[0] > 0 for worth in worths_beside(game, paper)])


def moved(field, widths, share):
    """The field with a share of its width added to each C."""
    return tuple([(a, b, plus(c, times(share, width))) for (a, b, c), width in zip(field, widths)])


def shows_widening(claim, paper):
    """Whether the widened field can be led into, and the one that is widened by one less is barred."""
    _, game, field, widths, many, least = claim
    check_game_and_field(game, field)
    check_widths(widths, len(field))
    check_number(many, 1, 1000)
    check_not_empty(field)
    if not is_nothing(paper) or not is_whole(least) or least < 0:
        return False
    if not is_led(game, moved(field, widths, ratio(least, many))):
        return False
    return least == 0 or not is_led(game, moved(field, widths, ratio(least - 1, many)))


def shows_correlated(claim, paper):
    """Whether the shares are correlated."""
    _, first, second, shares = claim
    return is_nothing(paper) and is_correlated(first, second, shares)


def shows_not_correlated(claim, paper):
    """Whether the told gain left is above 0."""
    _, first, second, shares = claim
    gains = gains_left(first, second, shares)
    if not is_tuple_of(paper, 3, 3) or not is_index(paper[0], 2):
        return False
    table = gains[paper[0]]
    if not is_index(paper[1], len(table)) or not is_index(paper[2], len(table)):
        return False
    return table[paper[1]][paper[2]][0] > 0


def are_prices(value, many):
    """Whether a value, whatever it is, is a square table of so many rows of fractions from 0 on."""
    return is_tuple_of(value, many, many) and all([are_not_below_nil(row, many) for row in value])


def price_sums(table, prices):
    """What prices come to in each row and column of a table, times a whole number; and this number."""
    whole, scale = whole_table(table)
    parts, count = whole_table(prices)
    found = []
    for part, own in zip(parts, whole):
        found.append([dot(part, column) - sum(part) * number for column, number in zip(exchanged(whole), own)])
    return found, scale * count


def shows_sum_up_to(claim, paper):
    """Whether prices show that no correlated shares have a greater sum."""
    _, first, second, weights, most = claim
    check_two_and_weights(first, second, weights)
    check_fraction(most)
    height, width = len(first), len(first[0])
    if not is_tuple_of(paper, 2, 2):
        return False
    if not are_prices(paper[0], height) or not are_prices(paper[1], width):
        return False
    ones, scale = price_sums(first, paper[0])
    others, count = price_sums(exchanged(second), paper[1])
    for at in range(height):
        for place in range(width):
            above, below = minus(weights[at][place], most)
            if above * scale * count > below * (ones[at][place] * count + others[place][at] * scale):
                return False
    return True


def shows_sum_above(claim, paper):
    """Whether correlated shares have a greater sum."""
    _, first, second, weights, most = claim
    check_two_and_weights(first, second, weights)
    check_fraction(most)
    if not is_correlated(first, second, paper):
        return False
    return not at_most(total([weighted(row, shares) for row, shares in zip(weights, paper)]), most)


SHOWS = {
    "worth": shows_worth, "led": shows_led, "barred": shows_barred, "answered": shows_answered,
    "unanswered": shows_unanswered, "guided": shows_guided, "unguided": shows_unguided, "widening": shows_widening,
    "correlated": shows_correlated, "not correlated": shows_not_correlated, "sum up to": shows_sum_up_to,
    "sum above": shows_sum_above,
}

SIZES = {
    "worth": 3, "led": 3, "barred": 3, "answered": 4, "unanswered": 4, "guided": 4, "unguided": 4, "widening": 6,
    "correlated": 4, "not correlated": 4, "sum up to": 5, "sum above": 5,
}


def is_word(value):
    """Whether a value, whatever it is, is the first word of a claim."""
    return type(value) is str and value in SHOWS


def accepts(claim, paper):
    """Whether a value, whatever it is, is a claim, and another one, whatever it is, a paper that shows it."""
    if not is_tuple_of(claim, 3, 6) or not is_word(claim[0]) or len(claim) != SIZES[claim[0]]:
        return False
    shows = SHOWS[claim[0]]
    try:
        return shows(claim, paper)
    except MeanError:
        return False

"""Certificates: a claim and a paper that the checker accepts; of two claims that exclude one another, the true one."""

from steermeans.balance import balanced
from steermeans.correlated import check_two_and_weights, gains_left
from steermeans.forms import check_fraction
from steermeans.games import excess_table
from steermeans.leading import answer, bar, least_widening, weights_beside
from steermeans.ratios import at_most
from steermeans.runs import guiding_mix, guiding_side
from steermeans.solving import solution
from steermeans.tables import check_table


def certify_worth(table):
    """The worth of a table, with a low and a high mix."""
    check_table(table)
    most, low, high = solution(table)
    return ("worth", table, most), (low, high)


def certify_led(game, field):
    """Whether a field can be led into, or what bars it."""
    found = bar(game, field)
    return (("led", game, field), ()) if found is None else (("barred", game, field), found)


def certify_answer(game, field, mix):
    """Whether a mix of columns is answered: an answer, or weights that show that it bars."""
    found = answer(game, field, mix)
    if found is not None:
        return ("answered", game, field, mix), found
    return ("unanswered", game, field, mix), weights_beside(game, field, mix)


def certify_guiding(game, field, place):
    """Whether a mix of rows guides at a place: such a mix, or one of columns that keeps each row's worth beyond."""
    found = guiding_mix(game, field, place)
    if found is not None:
        return ("guided", game, field, place), found
    _, _, high = solution(excess_table(game, guiding_side(field, place)))
    return ("unguided", game, field, place), high


def certify_widening(game, field, widths, many):
    """The least widening."""
    return ("widening", game, field, widths, many, least_widening(game, field, widths, many)), ()


def first_gain(gains):
    """Where the first gain above 0 is: to whom, and for which two indexes; None."""
    for who, table in enumerate(gains):
        for at, row in enumerate(table):
            for other, gain in enumerate(row):
                if gain[0] > 0:
                    return who, at, other
    return None


def certify_correlated(first, second, shares):
    """Whether shares are correlated, or which gain left is above 0."""
    found = first_gain(gains_left(first, second, shares))
    if found is None:
        return ("correlated", first, second, shares), ()
    return ("not correlated", first, second, shares), found


def certify_sum(first, second, weights, fraction):
    """Whether the greatest sum is up to a fraction, with prices, or above it, with shares."""
    check_two_and_weights(first, second, weights)
    check_fraction(fraction)
    most, shares, prices = balanced(first, second, weights)
    if at_most(most, fraction):
        return ("sum up to", first, second, weights, fraction), prices
    return ("sum above", first, second, weights, fraction), shares

"""The whole program with one table: its game of regrets, and what each part tells of it, by each part's own words.

The game of regrets of a table with two rows has, for each row and column, the pair of what row 0 and what row 1 gain
more in this column. The mean of plays then is the pair of both regrets, divided by how many rounds there are.
"""

import unittest
from fractions import Fraction
from itertools import product

from steermeans.certificates import (certify_correlated, certify_guiding, certify_led, certify_sum, certify_widening,
                                     certify_worth)
from steermeans.chances import day_squares, is_steady, left_squares, said_mix
from steermeans.checker import accepts
from steermeans.correlated import (correlated_prices, correlated_shares, gains_left, greatest_sum, is_correlated,
                                   joint_shares, most_gained)
from steermeans.exchanges import exchange_mix, exchange_squares, exchange_table, flows_evenly, is_exchanged
from steermeans.fields import corners, distance_square, is_in, lies_within, nearest
from steermeans.games import column_worths, excess, row_worths, tilted, turned, worth_of
from steermeans.leading import answer, bar, is_kept, is_led, keeping_mix, kept_square, least_widening, weights_beside
from steermeans.plans import (best_plan, is_telling, least_regret, rains_against, regret_of, spoil_of, spoiling_columns,
                              worst_columns, worst_regret, worst_wrong, wrong_along)
from steermeans.regrets import is_matched, matched_mix, most_square, regrets, single_squares
from steermeans.runs import first_unguided, guiding_mix, is_guiding, mean_of, reach_sum, round_bound, steered
from steermeans.tables import columns_of, high_mix, is_high_mix, is_low_mix, low_mix, rows_of, turned_table, worth
from tests.helper import dot, number, numbers, pair, pairs, plain
from tests.tallies import above, square_sum, told_rows

NIL, HALF, ONE = (0, 1), (1, 2), (1, 1)
# what each row gains in each column; both want much
TABLE = told_rows([[3, 0, Fraction(1, 2)], [Fraction(1, 2), 2, 1]])
U = plain(TABLE)
# no regret above 0
FIELD = ((ONE, NIL, NIL), (NIL, ONE, NIL))
GAME = tuple(tuple(pairs(U[0][j] - own, U[1][j] - own) for j, own in enumerate(row)) for row in U)
COLUMNS = (0, 1, 1, 0, 2, 1, 0, 0)


class WholeTest(unittest.TestCase):
    def test_the_worth_of_the_table(self):
        # the first one of tables wants little: so all signs are changed
        less = tuple(tuple((-a, b) for a, b in row) for row in TABLE)
        most = -number(worth(less))
        mix, other = low_mix(less), high_mix(less)
        self.assertIs(is_low_mix(less, mix) and is_high_mix(less, other), True)
        self.assertEqual(min(-number(told) for told in columns_of(less, mix)), most)
        self.assertEqual(max(-number(told) for told in rows_of(less, other)), most)
        # turned, the other one leads: rows and columns are exchanged, and signs again
        self.assertEqual(number(worth(turned_table(less))), most)
        self.assertIs(accepts(*certify_worth(less)), True)

    def test_no_regret_can_be_led_into(self):
        self.assertIs(is_led(GAME, FIELD), True)
        self.assertIsNone(bar(GAME, FIELD))
        self.assertEqual(certify_led(GAME, FIELD), (("led", GAME, FIELD), ()))
        self.assertEqual(least_widening(GAME, FIELD, (ONE, ONE), 10), 0)
        self.assertIs(accepts(*certify_widening(GAME, FIELD, (ONE, ONE), 10)), True)
        for at, side in enumerate(FIELD):
            self.assertIs(is_kept(GAME, side), True)
            # one row alone keeps its own regret: it is that row
            self.assertEqual(keeping_mix(GAME, side), ((ONE, NIL), (NIL, ONE))[at])
            self.assertEqual([number(told) for told in excess(GAME, side)[at]], [0, 0, 0])
        for mix in [(ONE, NIL, NIL), pairs(Fraction(1, 3), Fraction(1, 3), Fraction(1, 3))]:
            told = answer(GAME, FIELD, mix)
            self.assertIs(is_in(FIELD, worth_of(GAME, told, mix)), True)
            self.assertEqual((kept_square(GAME, FIELD, mix), weights_beside(GAME, FIELD, mix)), (NIL, None))
            self.assertEqual(worth_of(GAME, told, mix), tuple(pairs(*[dot(numbers(told), [number(place[at]) for place in
                             row_worths(GAME, mix)]) for at in range(2)])))

    def test_less_than_no_regret_is_barred(self):
        field = ((ONE, NIL, (-1, 10)), (NIL, ONE, NIL))
        self.assertIs(lies_within(field, FIELD), True)
        self.assertEqual(corners(field), (((-1, 10), NIL),))
        claim, paper = certify_led(GAME, field)
        self.assertEqual(claim[0], "barred")
        self.assertIs(accepts(claim, paper), True)
        self.assertIs(accepts(("led", GAME, field), ()), False)
        self.assertGreater(number(kept_square(GAME, field, paper[0])), 0)
        self.assertIsNone(answer(GAME, field, paper[0]))
        parts = [part / sum(numbers(paper[1])) for part in numbers(paper[1])]
        self.assertGreater(number(worth(tilted(GAME, field[0], field[1], pair(parts[1])))), 0)
        least = least_widening(GAME, field, (ONE, ONE), 100)
        self.assertGreater(least, 0)
        self.assertIs(accepts(("widening", GAME, field, (ONE, ONE), 100, least), ()), True)

    def test_guided_plays_and_matched_plays(self):
        plays = steered(GAME, FIELD, COLUMNS)
        self.assertIsNone(first_unguided(GAME, FIELD, plays))
        mean = mean_of(GAME, plays)
        self.assertEqual([number(told) * len(plays) for told in mean], numbers(regrets(TABLE, plays)))
        off = number(distance_square(FIELD, mean))
        self.assertEqual(off * len(plays) ** 2, square_sum(above(numbers(regrets(TABLE, plays)))))
        self.assertLessEqual(off * len(plays) ** 2, number(reach_sum(GAME, FIELD, plays)))
        self.assertLessEqual(number(reach_sum(GAME, FIELD, plays)), len(plays) * number(round_bound(GAME, FIELD)))
        # the matched mix guides: with it the worths of all columns are beside the side through the nearest place
        matched = ()
        for column in COLUMNS:
            mix = matched_mix(TABLE, matched)
            if matched:
                place = mean_of(GAME, matched)
                self.assertIs(is_guiding(GAME, FIELD, place, mix), True)
                self.assertEqual(certify_guiding(GAME, FIELD, place)[0][0], "guided")
                self.assertEqual(nearest(FIELD, place), tuple(min(told, NIL, key=number) for told in place))
                if max(map(number, place)) > 0:
                    self.assertEqual(guiding_mix(GAME, FIELD, place), mix)
            matched += ((mix, column),)
        self.assertIs(is_matched(TABLE, matched), True)
        self.assertIsNone(first_unguided(GAME, FIELD, matched))
        self.assertLessEqual(square_sum(above(numbers(regrets(TABLE, matched)))), number(single_squares(TABLE, matched)))
        self.assertLessEqual(number(single_squares(TABLE, matched)), len(matched) * number(most_square(TABLE)))

    def test_the_regrets_of_a_mix_are_its_column_worths(self):
        mix = pairs(Fraction(2, 7), Fraction(5, 7))
        for column, told in enumerate(column_worths(GAME, mix)):
            self.assertEqual(told, regrets(TABLE, ((mix, column),)))
        self.assertEqual([row[0] for row in turned(GAME)], list(GAME[0]))

    def test_exchanges_and_joint_shares(self):
        plays, rounds = (), ()
        for column in COLUMNS:
            mix = exchange_mix(TABLE, plays)
            self.assertIs(flows_evenly(TABLE, plays, mix), True)
            plays += ((mix, column),)
            rounds += ((mix, pairs(*[int(column == at) for at in range(3)])),)
        self.assertIs(is_exchanged(TABLE, plays), True)
        told = plain(exchange_table(TABLE, plays))
        self.assertEqual([sum(column) for column in zip(*told)], numbers(regrets(TABLE, plays)))
        self.assertLessEqual(square_sum(value for row in told for value in above(row)), number(exchange_squares(TABLE, plays)))
        shares = joint_shares(rounds)
        other = tuple(tuple((-a, b) for a, b in row) for row in TABLE)
        rows, _ = gains_left(TABLE, other, shares)
        self.assertEqual([[gain * len(plays) for gain in row] for row in plain(rows)], told)
        self.assertEqual(is_correlated(TABLE, other, shares), most_gained(TABLE, other, shares) == NIL)
        self.assertIs(accepts(*certify_correlated(TABLE, other, shares)), True)

    def test_correlated_shares_of_opposite_gains_gain_the_worth(self):
        other = tuple(tuple((-a, b) for a, b in row) for row in TABLE)
        most = -number(worth(other))
        self.assertEqual(number(greatest_sum(TABLE, other, TABLE)), most)
        self.assertEqual(number(greatest_sum(TABLE, other, other)), -most)
        shares = correlated_shares(TABLE, other, TABLE)
        self.assertEqual(certify_correlated(TABLE, other, shares), (("correlated", TABLE, other, shares), ()))
        claim, paper = certify_sum(TABLE, other, TABLE, pair(most))
        self.assertEqual((claim[0], paper), ("sum up to", correlated_prices(TABLE, other, TABLE)))
        self.assertIs(accepts(claim, paper), True)
        self.assertIs(accepts(*certify_sum(TABLE, other, TABLE, pair(most - 1))), True)
        # the joint shares of both best mixes are correlated
        joint = joint_shares(((low_mix(other), high_mix(other)),))
        self.assertIs(is_correlated(TABLE, other, joint), True)

    def test_said_chances_and_tellings(self):
        days = ()
        for column in COLUMNS:
            days += ((said_mix(3, days), int(column == 0)),)
        self.assertIs(is_steady(3, days), True)
        self.assertLessEqual(number(left_squares(3, days)), number(day_squares(3, days)))
        # without a mix some rains make each telling wrong
        telling = ((HALF,), (NIL, ONE), (NIL, HALF, HALF, ONE))
        self.assertIs(is_telling(telling), True)
        self.assertGreaterEqual(number(wrong_along(telling, rains_against(telling))), Fraction(3, 2))
        self.assertGreaterEqual(number(worst_wrong(telling)), number(wrong_along(telling, rains_against(telling))))

    def test_plans_suffer_what_mixes_need_not(self):
        mix = (HALF, HALF)
        spoil = number(spoil_of(TABLE, mix))
        self.assertGreater(spoil, 0)
        for levels in range(1, 6):
            plan, least = best_plan(TABLE, levels), number(least_regret(TABLE, levels))
            self.assertGreaterEqual(least, levels * spoil)
            self.assertEqual(number(worst_regret(TABLE, plan)), least)
            self.assertEqual(number(regret_of(TABLE, plan, worst_columns(TABLE, plan))), least)
            self.assertGreaterEqual(number(regret_of(TABLE, plan, spoiling_columns(TABLE, mix, plan))), levels * spoil)
        # matched plays may be off, too, but the squares tell by how much at most, along all columns
        for columns in product(range(3), repeat=4):
            matched = ()
            for column in columns:
                matched += ((matched_mix(TABLE, matched), column),)
            left = max(numbers(regrets(TABLE, matched)))
            self.assertTrue(left <= 0 or left ** 2 <= 4 * number(most_square(TABLE)))


if __name__ == "__main__":
    unittest.main()

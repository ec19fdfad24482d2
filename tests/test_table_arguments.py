"""Points 3, 4, 5, 6, 12 and 19 and the interface, for regrets, exchanges and correlated: which error comes for what."""

import unittest
from fractions import Fraction

from steermeans import correlated, exchanges, regrets
from steermeans.errors import (InvalidMix, InvalidPlays, InvalidRounds, InvalidShares, InvalidTable, InvalidWeights,
                               UnlikeTables)
from tests.calls import CallsCheck, given, index
from tests.helper import pairs, strange, wrong_fractions
from tests.tallies import LARGE
from tests.test_arguments import wrong_mixes, wrong_tables
from tests.test_game_arguments import wrong_plays

NIL, HALF, ONE, TWO, LESS = (0, 1), (1, 2), (1, 1), (2, 1), (-1, 1)
QUARTER, THIRD = (1, 4), (1, 3)
# two rows and three columns, so that a mix of rows is none of columns
TABLE = ((NIL, ONE, TWO), (TWO, ONE, LESS))
SECOND = ((ONE, ONE, NIL), (HALF, LESS, TWO))
ROWS, COLUMNS = (HALF, HALF), (HALF, NIL, HALF)
PLAYS = ((ROWS, 0), ((ONE, NIL), 2))
SHARES = ((HALF, NIL, QUARTER), (NIL, QUARTER, NIL))
WEIGHTS = ((HALF, LESS, NIL), (TWO, (-7, 3), ONE))
ROUNDS = ((ROWS, COLUMNS), ((ONE, NIL), (THIRD, THIRD, THIRD)))

CALLS = [
    (regrets.regrets, ["table", "plays"], (TABLE, PLAYS)),
    (regrets.matched_mix, ["table", "plays"], (TABLE, PLAYS)),
    (regrets.is_matched, ["table", "plays"], (TABLE, PLAYS)),
    (regrets.single_squares, ["table", "plays"], (TABLE, PLAYS)),
    (regrets.most_square, ["table"], (TABLE,)),
    (exchanges.exchange_table, ["table", "plays"], (TABLE, PLAYS)),
    (exchanges.exchange_mix, ["table", "plays"], (TABLE, PLAYS)),
    (exchanges.flows_evenly, ["table", "plays", "mix"], (TABLE, PLAYS, ROWS)),
    (exchanges.is_exchanged, ["table", "plays"], (TABLE, PLAYS)),
    (exchanges.exchange_squares, ["table", "plays"], (TABLE, PLAYS)),
    (correlated.joint_shares, ["rounds"], (ROUNDS,)),
    (correlated.gains_left, ["first", "second", "shares"], (TABLE, SECOND, SHARES)),
    (correlated.most_gained, ["first", "second", "shares"], (TABLE, SECOND, SHARES)),
    (correlated.is_correlated, ["first", "second", "shares"], (TABLE, SECOND, SHARES)),
    (correlated.greatest_sum, ["first", "second", "weights"], (TABLE, SECOND, WEIGHTS)),
    (correlated.correlated_shares, ["first", "second", "weights"], (TABLE, SECOND, WEIGHTS)),
    (correlated.correlated_prices, ["first", "second", "weights"], (TABLE, SECOND, WEIGHTS)),
]


def wrong_forms():
    """Values that are no two rows of three things."""
    row = (NIL, NIL, ONE)
    told = strange() + [(), ((),), row, (row,), (row,) * 3, [row, row], (row, list(row)), (list(row), row), (row, row[:2]),
                        (row[:2], row), (row[:2], row[:2]), (row + (NIL,), row), (row, ()), (row, row, ()), {0: row},
                        (row + row,), ((row, row),), ((row, row), (row, row))]
    return told + [(row, value) for value in strange()] + [(value, row) for value in strange()]


def rows_with(value, at, place):
    """Two rows of fractions with the sum 1 but for one value."""
    rows = [[NIL, ONE, NIL], [NIL, NIL, NIL]]
    rows[at][place] = value
    return tuple([tuple(row) for row in rows])


def wrong_shares():
    """Pairs of a value that is no shares of TABLE, and the index of its error."""
    told = [(value, None) for value in wrong_forms()]
    for value in wrong_fractions() + [LESS, (-1, 10 ** 60)]:
        told += [(rows_with(value, at, place), at) for at in range(2) for place in (0, 2)]
        told += [(((value, ONE, ONE), (value, value, ONE)), 0), (((ONE, ONE, ONE), (ONE, ONE, value)), 1)]
    sums = [((NIL,) * 3,) * 2, ((ONE,) * 3,) * 2, ((HALF, NIL, NIL), (NIL, NIL, THIRD)), ((ONE, NIL, NIL), (NIL, NIL, ONE)),
            (((10 ** 90 - 1, 10 ** 90), NIL, NIL), (NIL,) * 3), (((10 ** 90 + 1, 10 ** 90), NIL, NIL), (NIL,) * 3),
            ((TWO, NIL, NIL), (NIL, NIL, NIL))]
    return told + [(value, None) for value in sums]


def wrong_weights():
    """Pairs of a value that is no weights for TABLE, and the index of its error."""
    told = [(value, None) for value in wrong_forms()]
    for value in wrong_fractions():
        told += [(rows_with(value, at, place), at) for at in range(2) for place in range(3)]
        told.append((((ONE, ONE, value), (value, ONE, ONE)), 0))
    return told


def wrong_rounds():
    """Pairs of a value that is no rounds, and the index of its error."""
    good = ROUNDS[0]
    told = [(value, None) for value in strange() + [(), [good], [], {good: 1}]]
    wrong = strange() + [(), (ROWS,), good + (ROWS,), list(good), (ROWS, 1), (1, COLUMNS), (ROWS, ()), ((), COLUMNS),
                         (list(ROWS), COLUMNS), (ROWS, list(COLUMNS)), ((ONE, ONE), COLUMNS), (ROWS, (NIL, NIL, NIL)),
                         ((LESS, TWO), COLUMNS), (ROWS, (ONE, LESS, ONE)), ((ONE,) + (NIL,) * 4, COLUMNS),
                         (ROWS, (ONE,) + (NIL,) * 4), (ROWS, ((2, 4), HALF, NIL)), (ROWS, ROWS + (NIL, ONE))]
    for value in wrong_fractions():
        wrong += [((value, HALF), COLUMNS), ((ONE, value), COLUMNS), (ROWS, (value, NIL, HALF)), (ROWS, (ONE, NIL, value))]
    for value in wrong:
        told += [((value,), 0), ((value, value), 0), ((good, good, value), 2), ((good,) * 39 + (value,), 39)]
    # right by themselves, but not beside the first one
    for value in [((ONE,), COLUMNS), (ROWS + (NIL,), COLUMNS), (ROWS, (ONE,)), (ROWS, ROWS), (COLUMNS, ROWS),
                  (ROWS, COLUMNS + (NIL,))]:
        told += [((good, value), 1), ((good, good, value, value), 2), ((value, good), 1)]
    return told + [((good,) * 41, 40), ((good,) * 60, 40), ((good,) * 40 + (None,), 40), ((good,) * 7 + (None,) * 50, 7)]


WRONG = {
    "table": given(InvalidTable, wrong_tables()),
    "plays": index(InvalidPlays, wrong_plays()),
    "mix": index(InvalidMix, wrong_mixes(2) + [(COLUMNS, None)]),
    "shares": index(InvalidShares, wrong_shares()),
    "weights": index(InvalidWeights, wrong_weights()),
    "rounds": index(InvalidRounds, wrong_rounds()),
}
WRONG["first"] = WRONG["second"] = WRONG["table"]
OF_TWO = [(function, good) for function, parameters, good in CALLS if "second" in parameters]


class TableArgumentsTest(CallsCheck, unittest.TestCase):
    calls, wrong = CALLS, WRONG

    def test_each_function_is_defined_in_its_file(self):
        for module, names in [(regrets, "regrets matched_mix is_matched single_squares most_square"),
                              (exchanges, "exchange_table exchange_mix flows_evenly is_exchanged exchange_squares"),
                              (correlated, "joint_shares gains_left most_gained is_correlated greatest_sum "
                                           "correlated_shares correlated_prices")]:
            for name in names.split():
                self.assertEqual(getattr(module, name).__module__, module.__name__)

    def check_unlike(self, function, *arguments):
        with self.assertRaises(UnlikeTables) as caught:
            function(*arguments)
        self.assertIs(type(caught.exception), UnlikeTables)
        self.assertEqual(vars(caught.exception), {})

    def test_unlike_tables(self):
        sizes = [(height, width) for height in range(1, 5) for width in range(1, 5)]
        for function, good in OF_TWO:
            for height, width in sizes:
                other = ((ONE,) * width,) * height
                if (height, width) != (2, 3):
                    self.check_unlike(function, TABLE, other, good[2])
                    self.check_unlike(function, other, TABLE, good[2])
            turned = tuple(zip(*SECOND))
            self.check_unlike(function, TABLE, turned, good[2])

    def test_unlike_tables_are_told_behind_both_tables_and_ahead_of_what_follows(self):
        other = ((ONE, TWO),)
        for function, good in OF_TWO:
            for told in WRONG["table"][::9]:
                self.check_error(told, function, told[0], other, good[2])
                self.check_error(told, function, other, told[0], good[2])
                self.check_error(told, function, TABLE, told[0], None)
            for wrong in (WRONG["shares"] + WRONG["weights"])[::31]:
                self.check_unlike(function, TABLE, other, wrong[0])

    def test_weights_may_have_either_sign_and_shares_not(self):
        for value in (LESS, (-10 ** 80, 3), (-1, 10 ** 80)):
            correlated.greatest_sum(TABLE, SECOND, rows_with(value, 1, 1))
            self.check_error((None, InvalidShares, "index", 1), correlated.gains_left, TABLE, SECOND,
                             rows_with(value, 1, 1))

    def test_of_wrong_parts_of_shares_the_first_row_is_told_ahead_of_the_sum(self):
        for value in (LESS, (2, 4), None, [1, 1]):
            for at in range(2):
                rows = [[ONE] * 3, [ONE] * 3]
                rows[at][1] = value
                wrong = tuple([tuple(row) for row in rows])
                self.check_error((wrong, InvalidShares, "index", at), correlated.is_correlated, TABLE, SECOND, wrong)

    def test_no_plays_and_forty_of_them(self):
        forty = ((ROWS, 2),) * 40
        for function, parameters, good in CALLS:
            if "plays" in parameters:
                function(TABLE, (), *good[2:])
                function(TABLE, forty, *good[2:])
                self.check_error((None, InvalidPlays, "index", 40), function, TABLE, forty + ((ROWS, 2),), *good[2:])

    def test_one_round_and_forty_of_them(self):
        for many in (1, 40):
            correlated.joint_shares(ROUNDS[:1] * many)
        self.check_error((None, InvalidRounds, "index", 40), correlated.joint_shares, ROUNDS[:1] * 41)

    def test_rounds_of_every_size(self):
        for height in range(1, 6):
            for width in range(1, 6):
                element = ((ONE,) + (NIL,) * (height - 1), (ONE,) + (NIL,) * (width - 1))
                if height < 5 and width < 5:
                    self.assertEqual(len(correlated.joint_shares((element, element))), height)
                    self.check_error((None, InvalidRounds, "index", 1), correlated.joint_shares,
                                     (element, (element[0] + (NIL,), element[1])))
                else:
                    self.check_error((None, InvalidRounds, "index", 0), correlated.joint_shares, (element, element))

    def test_tables_of_four_rows_and_columns_and_of_five(self):
        four, five = ((ONE,) * 4,) * 4, ((ONE,) * 5,) * 4
        regrets.most_square(four)
        self.check_error((five, InvalidTable, "given", five), regrets.most_square, five)
        self.check_error((five, InvalidTable, "given", five), correlated.greatest_sum, four, five, four)

    def test_what_was_returned_may_be_passed_on(self):
        rows = tuple([pairs(*[LARGE / k + 1 / LARGE ** j for k in range(1, 5)]) for j in range(1, 5)])
        weights = ((pairs(LARGE, -LARGE, 1, 0)),) * 4
        other = tuple(zip(*rows[::-1]))
        shares = correlated.correlated_shares(rows, other, weights)
        left = correlated.gains_left(rows, other, shares)
        correlated.correlated_shares(*left, left[0])
        self.assertIs(correlated.is_correlated(rows, other, shares), True)
        plays = ()
        for column in range(4):
            plays += ((exchanges.exchange_mix(rows, plays), column),)
        self.assertIs(exchanges.is_exchanged(rows, plays), True)
        plays += ((regrets.matched_mix(rows, plays), 0),)
        told = exchanges.exchange_table(rows, plays)
        regrets.regrets(told, plays)
        correlated.joint_shares(tuple([(mix, mix) for mix, _ in plays]))

    def test_numbers_of_several_hundred_figures(self):
        large, more = 10 ** 399 + 1, 3 ** 800
        table = (((large, more), NIL), ((-large, more), ONE))
        self.assertEqual(regrets.regrets(table, (((ONE, NIL), 0), ((NIL, ONE), 1))),
                         tuple([pairs(Fraction(value))[0] for value in
                                (-1, -2 * Fraction(large, more))]))
        self.assertEqual(correlated.greatest_sum((((large, more),),), (((large, more),),), (((large, more),),)),
                         (large, more))


if __name__ == "__main__":
    unittest.main()

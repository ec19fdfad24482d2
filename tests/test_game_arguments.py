"""Points 3, 4 and 5 and the first part of the interface, for games, leading and runs: which error comes for what."""

import unittest

from steermeans import games, leading, runs
from steermeans.errors import (EmptyField, InvalidColumns, InvalidField, InvalidFraction, InvalidGame, InvalidMix,
                               InvalidNumber, InvalidPair, InvalidPlays, InvalidSide, InvalidWeights, NotLed)
from tests.calls import EMPTY, CallsCheck, given, index
from tests.helper import strange, wrong_fractions
from tests.test_arguments import wrong_fields, wrong_mixes, wrong_places

NIL, HALF, ONE, TWO, LESS = (0, 1), (1, 2), (1, 1), (2, 1), (-1, 1)
PLACE = (HALF, TWO)
# two rows and three columns, so that a mix of rows is none of columns
GAME = (((NIL, NIL), (ONE, NIL), (NIL, NIL)), ((ONE, NIL), (ONE, ONE), (HALF, HALF)))
FIELD = ((LESS, NIL, (-1, 2)), (NIL, ONE, TWO))
BARRED = ((ONE, NIL, (-5, 1)),)
SIDE = FIELD[0]
ROWS, COLUMNS = (HALF, HALF), (HALF, NIL, HALF)
PLAYS = ((ROWS, 0), ((ONE, NIL), 2))

# each function, its parameters in order, and good arguments for them
CALLS = [
    (games.worth_of, ["game", "mix", "other"], (GAME, ROWS, COLUMNS)),
    (games.row_worths, ["game", "mix of columns"], (GAME, COLUMNS)),
    (games.column_worths, ["game", "mix"], (GAME, ROWS)),
    (games.turned, ["game"], (GAME,)),
    (games.excess, ["game", "side"], (GAME, SIDE)),
    (games.tilted, ["game", "one", "two", "share"], (GAME, SIDE, SIDE, HALF)),
    (leading.is_led, ["game", "field"], (GAME, FIELD)),
    (leading.bar, ["game", "field"], (GAME, FIELD)),
    (leading.answer, ["game", "field", "mix of columns"], (GAME, FIELD, COLUMNS)),
    (leading.weights_beside, ["game", "field", "mix of columns"], (GAME, FIELD, COLUMNS)),
    (leading.kept_square, ["game", "field", "mix of columns"], (GAME, FIELD, COLUMNS)),
    (leading.is_kept, ["game", "side"], (GAME, SIDE)),
    (leading.keeping_mix, ["game", "side"], (GAME, SIDE)),
    (leading.barring_share, ["game", "one", "two"], (GAME, SIDE, SIDE)),
    (leading.least_widening, ["game", "field", "widths", "many"], (GAME, FIELD, (ONE, HALF), 7)),
    (runs.mean_of, ["game", "plays"], (GAME, PLAYS)),
    (runs.guiding_mix, ["game", "field", "place"], (GAME, FIELD, PLACE)),
    (runs.is_guiding, ["game", "field", "place", "mix"], (GAME, FIELD, PLACE, ROWS)),
    (runs.first_unguided, ["game", "field", "plays"], (GAME, FIELD, PLAYS)),
    (runs.reach_sum, ["game", "field", "plays"], (GAME, FIELD, PLAYS)),
    (runs.round_bound, ["game", "field"], (GAME, FIELD)),
    (runs.steered, ["game", "field", "columns"], (GAME, FIELD, (0, 2, 1))),
]


def wrong_games():
    """Values that are no games."""
    told = strange() + [(), ((),), ((), ()), ONE, PLACE, (PLACE,), (PLACE, PLACE), [[PLACE]], [(PLACE,)], ([PLACE],),
                        (([ONE, ONE],),), ((([1, 1], ONE),),), ((PLACE,), [PLACE]), ((PLACE,), ()), ((), (PLACE,)),
                        ((PLACE,), (PLACE, PLACE)), ((PLACE, PLACE), (PLACE,)), ((PLACE,),) * 4, ((PLACE,) * 4,),
                        (((PLACE,),),), ((PLACE + (ONE,),),), ((PLACE[:1],),)]
    told += [(value,) for value in strange()] + [((PLACE,), value) for value in strange()]
    told += [((PLACE, value), (PLACE, PLACE)) for value in strange()]
    return told + [((PLACE, PLACE), (PLACE, (ONE, value))) for value in wrong_fractions()]


def wrong_sides():
    """Values that are no sides."""
    told = strange() + [(), (ONE,), (ONE, ONE), (ONE,) * 4, [ONE, ONE, ONE], (NIL, NIL, ONE), (NIL, NIL, NIL), (SIDE,),
                        ([1, 1], ONE, ONE)]
    for value in wrong_fractions():
        told += [(value, ONE, ONE), (ONE, value, ONE), (ONE, ONE, value)]
    return told


def wrong_shares():
    """Values that are no fractions from 0 to 1."""
    return wrong_fractions() + [LESS, TWO, (-1, 10 ** 60), (10 ** 60 + 1, 10 ** 60), (7, 2)]


def wrong_numbers():
    """Values that are no whole numbers from 1 to 1000."""
    return [value for value in strange() if value != 1 or value is True] + [ONE, (), (5,), -1, 1001, 10 ** 400, False]


def wrong_plays():
    """Pairs of a value that is no plays of GAME, and the index of its error."""
    good = (ROWS, 1)
    told = [(value, None) for value in strange() + [[good], [], {good: 1}]]
    wrong = strange() + [(), (ROWS,), (ROWS, 1, 1), [ROWS, 1], (COLUMNS, 1), (1, ROWS), (list(ROWS), 1), ((ONE, ONE), 1),
                         ((NIL, NIL), 1), ((LESS, TWO), 1), ((ONE,), 1), (ROWS + (NIL,), 1), (((2, 4), HALF), 1), ((), 0)]
    wrong += [(ROWS, value) for value in strange() if value not in (0, 1) or type(value) is not int]
    wrong += [(ROWS, value) for value in (-1, 3, 10 ** 30, ONE, (1,))]
    wrong += [((value, HALF), 0) for value in wrong_fractions()] + [((ONE, value), 2) for value in wrong_fractions()]
    for value in wrong:
        told += [((value,), 0), ((good, good, value), 2), ((good,) * 39 + (value,), 39), ((value, value), 0)]
    told += [((good,) * 41, 40), ((good,) * 60, 40), ((good,) * 40 + (None,), 40), ((good,) * 7 + (None,) * 50, 7)]
    return told


def wrong_columns():
    """Pairs of a value that is no columns of GAME, up to eight, and the index of its error."""
    told = [(value, None) for value in strange() + [[0], []]]
    for value in [-1, 3, 10 ** 30, None, True, False, "0", "", b"0", [0], (0,), (), {}, ONE]:
        told += [((value,), 0), ((0, 1, value), 2), ((0,) * 7 + (value,), 7), ((0, value, value, 0), 1)]
    return told + [((0,) * 9, 8), ((2,) * 50, 8), ((0,) * 8 + (None,), 8), ((0, None) + (1,) * 20, 1)]


def wrong_widths():
    """Pairs of a value that is no widths of two sides, and the index of its error."""
    told = [(value, None) for value in strange() + [(), (ONE,), (ONE, ONE, ONE), [ONE, ONE], (ONE,) * 6]]
    for value in wrong_fractions() + [NIL, LESS, (-1, 10 ** 60)]:
        told += [((value, ONE), 0), ((ONE, value), 1), ((value, value), 0)]
    return told


WRONG = {
    "game": given(InvalidGame, wrong_games()),
    "field": given(InvalidField, wrong_fields()),
    "side": given(InvalidSide, wrong_sides()),
    "place": given(InvalidPair, wrong_places()),
    "mix": index(InvalidMix, wrong_mixes(2) + [(COLUMNS, None)]),
    "mix of columns": index(InvalidMix, wrong_mixes(3) + [(ROWS, None)]),
    "share": given(InvalidFraction, wrong_shares()),
    "plays": index(InvalidPlays, wrong_plays()),
    "columns": index(InvalidColumns, wrong_columns()),
    "widths": index(InvalidWeights, wrong_widths()),
    "many": given(InvalidNumber, wrong_numbers()),
}
WRONG["one"] = WRONG["two"] = WRONG["side"]
WRONG["other"] = WRONG["mix of columns"]


class GameArgumentsTest(CallsCheck, unittest.TestCase):
    calls, wrong = CALLS, WRONG

    def test_each_function_is_defined_in_its_file(self):
        for module, names in [(games, "is_game worth_of row_worths column_worths turned excess tilted"),
                              (leading, "is_led bar answer weights_beside kept_square is_kept keeping_mix barring_share "
                                        "least_widening"),
                              (runs, "mean_of guiding_mix is_guiding first_unguided reach_sum round_bound steered")]:
            for name in names.split():
                self.assertEqual(getattr(module, name).__module__, module.__name__)

    def test_a_barred_field_is_told_behind_an_empty_one(self):
        for columns in ((), (0,), (2,) * 8):
            with self.assertRaises(NotLed) as caught:
                runs.steered(GAME, BARRED, columns)
            self.assertEqual(vars(caught.exception), {})
            self.assertRaises(EmptyField, runs.steered, GAME, EMPTY, columns)
        for told in WRONG["columns"]:
            self.check_error(told, runs.steered, GAME, BARRED, told[0])

    def test_no_plays_and_forty_of_them(self):
        forty = ((ROWS, 2),) * 40
        self.check_error(((), InvalidPlays, "index", None), runs.mean_of, GAME, ())
        self.check_error((None, InvalidGame, "given", None), runs.mean_of, None, ())
        runs.mean_of(GAME, forty)
        self.assertEqual(runs.reach_sum(GAME, FIELD, ()), NIL)
        self.assertIsNone(runs.first_unguided(GAME, FIELD, ()))
        runs.first_unguided(GAME, FIELD, forty)
        runs.reach_sum(GAME, FIELD, forty)
        self.assertEqual(len(runs.steered(GAME, FIELD, (1,) * 8)), 8)

    def test_numbers_and_shares_at_their_bounds(self):
        for many in (1, 1000):
            self.assertEqual(leading.least_widening(GAME, FIELD, (ONE, ONE), many), 0)
        for share in (NIL, ONE, (1, 10 ** 60), (10 ** 60 - 1, 10 ** 60)):
            games.tilted(GAME, SIDE, FIELD[1], share)

    def test_the_number_of_widths_is_that_of_the_sides(self):
        for many in range(1, 6):
            field = (SIDE,) * many
            leading.least_widening(GAME, field, (ONE,) * many, 1)
            for other in range(7):
                if other != many:
                    self.check_error((None, InvalidWeights, "index", None), leading.least_widening, GAME, field,
                                     (ONE,) * other, 1)

    def test_mixes_of_every_number(self):
        for height in range(1, 4):
            for width in range(1, 4):
                game = ((PLACE,) * width,) * height
                row, column = (ONE,) + (NIL,) * (height - 1), (ONE,) + (NIL,) * (width - 1)
                self.assertEqual(games.worth_of(game, row, column), PLACE)
                for function, told, many in [(games.column_worths, wrong_mixes(height), height),
                                             (games.row_worths, wrong_mixes(width), width)]:
                    for value, at in told:
                        self.check_error((value, InvalidMix, "index", at), function, game, value)
                        if at is None and type(value) is tuple and len(value) != many:
                            self.check_error((value, InvalidMix, "index", None), function, game, value)

    def test_what_was_returned_may_be_passed_on(self):
        large = (10 ** 399 + 1, 3 ** 800)
        game = (((large, NIL), (NIL, large)), ((NIL, ONE), (large, large)))
        field = ((ONE, NIL, large), (NIL, large, ONE))
        mix, weights = leading.bar(game, field) or ((HALF, HALF), None)
        rows = games.row_worths(game, mix)
        self.assertIs(games.is_game((rows,)), True)
        again = games.row_worths((rows,), (HALF, HALF))[0]
        self.assertIs(games.is_game(((again,),)), True)
        leading.is_led(((again,),), field)
        runs.guiding_mix(game, field, again)
        runs.mean_of(game, ((mix, 0), (mix, 1)))


if __name__ == "__main__":
    unittest.main()

"""Point 11 and steermeans/games.py."""

import unittest
from fractions import Fraction

from steermeans.games import column_worths, excess, is_game, row_worths, tilted, turned, worth_of
from tests.helper import grid, numbers, pair, pairs, plain, seeded, some_fraction, some_mix, strange, wrong_fractions
from tests.reckoning import against, beside, excess_rows, mean, some_game, spots, tilted_rows, told_game

NIL, HALF, ONE, TWO, LESS = (0, 1), (1, 2), (1, 1), (2, 1), (-1, 1)
TICK, CROSS = (((NIL, NIL), (NIL, NIL)), ((ONE, NIL), (ONE, ONE))), (((LESS, TWO),), ((TWO, LESS),))
LEAN = ((LESS, NIL, (-1, 2)), (NIL, ONE, HALF))
QUARTER = ((ONE, NIL, NIL), (NIL, ONE, NIL))
SIZES = [(height, width) for height in range(1, 4) for width in range(1, 4)]


def examples(seed, each):
    """Games of every size."""
    source = seeded(seed)
    return [some_game(source, height, width, 9, 7) for height, width in SIZES for _ in range(each)]


def sides(seed, many):
    """Sides of every direction, those along an axis too."""
    source = seeded(seed)
    found = [pairs(0, 1, 3), pairs(0, -2, Fraction(1, 2)), pairs(1, 0, 0), pairs(Fraction(-1, 3), 0, -5)]
    return found + [pairs(some_fraction(source) or 1, some_fraction(source), some_fraction(source))
                    for _ in range(many)]


class GamesTest(unittest.TestCase):
    def test_the_examples_of_the_document(self):
        self.assertEqual(
            [is_game(TICK), is_game(((ONE, TWO),)), worth_of(TICK, (HALF, HALF), (NIL, ONE)),
             row_worths(TICK, (HALF, HALF)), column_worths(TICK, (HALF, HALF)), turned(CROSS)],
            [True, False, ((1, 2), (1, 2)), (((0, 1), (0, 1)), ((1, 1), (1, 2))), (((1, 2), (0, 1)), ((1, 2), (1, 2))),
             ((((-1, 1), (2, 1)), ((2, 1), (-1, 1))),)])
        self.assertEqual(
            [excess(TICK, LEAN[0]), tilted(CROSS, QUARTER[0], QUARTER[1], HALF)],
            [(((1, 2), (1, 2)), ((-1, 2), (-1, 2))), (((1, 2),), ((1, 2),))])

    def test_parameters_by_name(self):
        self.assertEqual(
            [is_game(value=TICK), worth_of(other=(NIL, ONE), mix=(HALF, HALF), game=TICK),
             row_worths(mix=(HALF, HALF), game=TICK), column_worths(mix=(HALF, HALF), game=TICK), turned(game=CROSS),
             excess(side=LEAN[0], game=TICK), tilted(share=HALF, two=QUARTER[1], one=QUARTER[0], game=CROSS)],
            [True, worth_of(TICK, (HALF, HALF), (NIL, ONE)), row_worths(TICK, (HALF, HALF)),
             column_worths(TICK, (HALF, HALF)), turned(CROSS), excess(TICK, LEAN[0]),
             tilted(CROSS, QUARTER[0], QUARTER[1], HALF)])

    def test_worths_of_rows_and_columns(self):
        source = seeded(1)
        for game in examples(2, 12):
            p, q = some_mix(source, len(game)), some_mix(source, len(game[0]))
            self.assertEqual(row_worths(game, pairs(*q)), tuple(pairs(*place) for place in beside(game, q)))
            self.assertEqual(column_worths(game, pairs(*p)), tuple(pairs(*place) for place in against(game, p)))

    def test_rows_and_columns_alone(self):
        for game in examples(3, 4):
            for i in range(len(game)):
                row = pairs(*[int(k == i) for k in range(len(game))])
                self.assertEqual(column_worths(game, row), game[i])
                for j in range(len(game[0])):
                    column = pairs(*[int(k == j) for k in range(len(game[0]))])
                    self.assertEqual(worth_of(game, row, column), game[i][j])
                    self.assertEqual(row_worths(game, column), tuple(told[j] for told in game))

    def test_the_worth_of_two_mixes_is_the_mean_of_rows_and_of_columns(self):
        source = seeded(4)
        for game in examples(5, 12):
            p, q = some_mix(source, len(game)), some_mix(source, len(game[0]))
            told = worth_of(game, pairs(*p), pairs(*q))
            rows = [tuple(numbers(place)) for place in row_worths(game, pairs(*q))]
            columns = [tuple(numbers(place)) for place in column_worths(game, pairs(*p))]
            self.assertEqual(told, pairs(*mean(p, rows)))
            self.assertEqual(told, pairs(*mean(q, columns)))
            whole = sum(a * b * place[0] for a, row in zip(p, spots(game)) for b, place in zip(q, row))
            self.assertEqual(told[0], pair(whole))

    def test_the_turned_game(self):
        source = seeded(6)
        for game in examples(7, 4):
            other = turned(game)
            self.assertEqual([len(other), len(other[0])], [len(game[0]), len(game)])
            for i, row in enumerate(game):
                for j, place in enumerate(row):
                    self.assertEqual(other[j][i], place)
            self.assertEqual(turned(other), game)
            self.assertIs(is_game(other), True)
            p, q = pairs(*some_mix(source, len(game))), pairs(*some_mix(source, len(game[0])))
            self.assertEqual(worth_of(other, q, p), worth_of(game, p, q))
            self.assertEqual(row_worths(other, p), column_worths(game, p))

    def test_the_excess_of_sides(self):
        for game in examples(8, 2):
            for side in sides(9, 3):
                told = excess(game, side)
                self.assertEqual(told, grid(excess_rows(game, side)))
                doubled = tuple(pair(2 * share) for share in numbers(side))
                self.assertEqual(plain(excess(game, doubled)), [[2 * a for a in row] for row in plain(told)])

    def test_a_side_along_an_axis_counts_one_number_alone(self):
        game = told_game([[(3, 50), (4, 60)], [(5, 70), (-6, 80)]])
        self.assertEqual(excess(game, pairs(2, 0, 1)), grid([[5, 7], [9, -13]]))
        self.assertEqual(excess(game, pairs(0, Fraction(-1, 10), 1)), grid([[-6, -7], [-8, -9]]))

    def test_tilted_tables(self):
        source = seeded(10)
        for game in examples(11, 2):
            for one, two in zip(sides(12, 4), sides(13, 4)[::-1]):
                for share in (Fraction(0), Fraction(1), Fraction(1, 2), Fraction(source.randint(0, 97), 97)):
                    rows = tilted_rows(excess_rows(game, one), excess_rows(game, two), share)
                    told = tilted(game, one, two, pair(share))
                    self.assertEqual(told, grid(rows))
                    self.assertEqual(tilted(game, two, one, pair(1 - share)), told)
                self.assertEqual(tilted(game, one, two, NIL), excess(game, one))
                self.assertEqual(tilted(game, one, two, ONE), excess(game, two))
                self.assertEqual(tilted(game, one, one, (3, 7)), excess(game, one))

    def test_large_numbers(self):
        large = Fraction(10 ** 399 + 7, 3 ** 800)
        game = told_game([[(large, -large)], [(1 / large, 0)]])
        self.assertEqual(worth_of(game, (HALF, HALF), (ONE,)), pairs((large + 1 / large) / 2, -large / 2))
        self.assertEqual(excess(game, pairs(1, 1, large)), grid([[-large], [1 / large - large]]))
        again = (row_worths(game, (ONE,)),)
        self.assertIs(is_game(again), True)
        self.assertEqual(column_worths(again, (ONE,)), again[0])

    def test_equal_calls_have_equal_results_and_change_nothing(self):
        for game in examples(14, 1):
            again = tuple(tuple(((a, b), (c, d)) for (a, b), (c, d) in row) for row in game)
            self.assertEqual([turned(game), excess(game, LEAN[0]), tilted(game, *LEAN, HALF)],
                             [turned(again), excess(again, LEAN[0]), tilted(again, *LEAN, HALF)])
            self.assertEqual(game, again)


class IsGameTest(unittest.TestCase):
    def test_games_of_every_size(self):
        for game in examples(15, 3) + [TICK, CROSS]:
            self.assertIs(is_game(game), True)

    def test_whatever_it_is(self):
        for value in strange() + wrong_fractions():
            self.assertIs(is_game(value), False, value)
            self.assertIs(is_game((value,)), False, value)
            self.assertIs(is_game((((ONE, TWO),), value)), False, value)
            self.assertIs(is_game((value, ((ONE, TWO),))), False, value)
        for value in strange() + [(), (ONE,), ONE, (ONE, ONE, ONE)]:
            self.assertIs(is_game(((value,),)), False, value)
            self.assertIs(is_game((((ONE, TWO), value),)), False, value)

    def test_numbers_that_are_no_fractions(self):
        for value in wrong_fractions():
            for place in [(value, ONE), (ONE, value)]:
                self.assertIs(is_game(((place,),)), False, place)
                self.assertIs(is_game((((ONE, TWO), (ONE, TWO)), ((ONE, ONE), place))), False, place)

    def test_rows_and_columns_too_many_too_few_or_unlike(self):
        place = (ONE, NIL)
        for value in [(), ((),), ((), ()), ((place,),) * 4, ((place,) * 4,), ((place,) * 4,) * 4, ((place,), ()),
                      ((), (place,)), ((place,), (place, place)), ((place, place), (place,)), place, (place,),
                      (place, place), ((ONE,),), ((place + (ONE,),),), (((place,),),)]:
            self.assertIs(is_game(value), False, value)
        self.assertIs(is_game(((place,) * 3,) * 3), True)

    def test_a_list_in_the_place_of_a_tuple(self):
        place = (ONE, NIL)
        for value in [[(place,)], ([place],), (([ONE, NIL],),), ((([1, 1], NIL),),), ((place,), [place])]:
            self.assertIs(is_game(value), False, value)


if __name__ == "__main__":
    unittest.main()

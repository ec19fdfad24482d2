"""Points 19 and 20 and steermeans/regrets.py."""

import unittest
from fractions import Fraction
from itertools import product

from steermeans.regrets import is_matched, matched_mix, most_square, regrets, single_squares
from steermeans.tables import worth
from tests.helper import dot, grid, number, numbers, pair, pairs, seeded, some_mix
from tests.reckoning import is_mix
from tests.tallies import (LARGE, SIZES, above, alone, column_of, own_matched, own_more, own_regrets, some_rows, some_table,
                           some_table_plays, square_sum, told_rows)

NIL, HALF, ONE, TWO, THREE, LESS = (0, 1), (1, 2), (1, 1), (2, 1), (3, 1), (-1, 1)
EVEN, ODD, EVEN_MIX = ((ONE, NIL), (NIL, ONE)), ((NIL, THREE), (TWO, ONE)), (HALF, HALF)
PLAYS = ((EVEN_MIX, 0), (EVEN_MIX, 0), ((ONE, NIL), 1))
MATCHED = ((EVEN_MIX, 0), ((ONE, NIL), 1), (EVEN_MIX, 0))


def matched_plays(table, columns, first):
    """Plays along columns: the first mix as told, the others as the package matches them."""
    plays = ()
    for column in columns:
        plays += ((matched_mix(table, plays) if plays else first, column),)
    return plays


class ExamplesTest(unittest.TestCase):
    def test_the_examples_of_the_document(self):
        self.assertEqual(
            [regrets(EVEN, PLAYS), matched_mix(EVEN, PLAYS), is_matched(EVEN, PLAYS), single_squares(EVEN, PLAYS),
             matched_mix(EVEN, ())],
            [((1, 1), (0, 1)), ((1, 1), (0, 1)), False, (2, 1), ((1, 2), (1, 2))])
        self.assertEqual(
            [is_matched(EVEN, MATCHED), regrets(EVEN, MATCHED), single_squares(EVEN, MATCHED), most_square(EVEN),
             most_square(ODD)],
            [True, ((1, 1), (0, 1)), (2, 1), (1, 1), (4, 1)])

    def test_parameters_by_name(self):
        self.assertEqual(
            [regrets(plays=PLAYS, table=EVEN), matched_mix(plays=PLAYS, table=EVEN), is_matched(plays=PLAYS, table=EVEN),
             single_squares(plays=PLAYS, table=EVEN), most_square(table=ODD)],
            [((1, 1), (0, 1)), ((1, 1), (0, 1)), False, (2, 1), (4, 1)])

    def test_equal_calls_have_equal_results(self):
        source = seeded(1)
        for size in SIZES:
            table = some_table(source, *size)
            plays = some_table_plays(source, table, 5)
            again = tuple(tuple((a, b) for a, b in row) for row in table)
            self.assertEqual(regrets(table, plays), regrets(again, plays))
            self.assertEqual(table, again)


class RegretsTest(unittest.TestCase):
    def test_by_own_sums(self):
        source = seeded(2)
        for many in (0, 1, 2, 7):
            for size in SIZES:
                table = some_table(source, *size)
                plays = some_table_plays(source, table, many)
                self.assertEqual(numbers(regrets(table, plays)), own_regrets(table, plays))
                self.assertEqual(number(single_squares(table, plays)),
                                 sum((square_sum(own_more(table, play)) for play in plays), Fraction(0)))

    def test_forty_rounds(self):
        source = seeded(3)
        for size in SIZES:
            table = some_table(source, *size, 9, 7)
            plays = some_table_plays(source, table, 40)
            self.assertEqual(numbers(regrets(table, plays)), own_regrets(table, plays))
            self.assertEqual(number(single_squares(table, plays)), sum(square_sum(own_more(table, play)) for play in plays))

    def test_no_round(self):
        for height, width in SIZES:
            table = some_table(seeded(4), height, width)
            self.assertEqual(regrets(table, ()), (NIL,) * height)
            self.assertEqual(single_squares(table, ()), NIL)

    def test_rows_alone(self):
        self.assertEqual(regrets(ODD, ((alone(0, 2), 0),)), (NIL, TWO))
        self.assertEqual(regrets(ODD, ((alone(0, 2), 0), (alone(1, 2), 1))), (TWO, TWO))
        self.assertEqual(regrets(ODD, ((alone(1, 2), 0), (alone(0, 2), 1))), ((-2, 1), (-2, 1)))
        self.assertEqual(single_squares(ODD, ((alone(0, 2), 0), (alone(1, 2), 1))), (8, 1))

    def test_one_row_has_nothing_to_regret(self):
        source = seeded(5)
        for width in range(1, 5):
            table = some_table(source, 1, width)
            plays = some_table_plays(source, table, 6)
            self.assertEqual(regrets(table, plays), (NIL,))
            self.assertEqual(single_squares(table, plays), NIL)
            self.assertEqual(most_square(table), NIL)

    def test_another_order_of_rounds(self):
        source = seeded(6)
        for size in SIZES:
            table = some_table(source, *size)
            plays = list(some_table_plays(source, table, 9))
            told = regrets(table, tuple(plays)), single_squares(table, tuple(plays))
            source.shuffle(plays)
            self.assertEqual((regrets(table, tuple(plays)), single_squares(table, tuple(plays))), told)

    def test_a_number_added_to_a_whole_column(self):
        source = seeded(7)
        for height, width in SIZES:
            rows = some_rows(source, height, width)
            column, more = source.randrange(width), source.choice([Fraction(7, 3), LARGE, -LARGE])
            raised = [[value + more * (at == column) for at, value in enumerate(row)] for row in rows]
            table, other = told_rows(rows), told_rows(raised)
            plays = some_table_plays(source, table, 6)
            for function in (regrets, matched_mix, is_matched, single_squares):
                self.assertEqual(function(table, plays), function(other, plays))
            self.assertEqual(most_square(table), most_square(other))

    def test_large_numbers(self):
        source = seeded(8)
        for height, width in SIZES[::3]:
            table = told_rows([[value * LARGE + 1 / LARGE for value in row] for row in some_rows(source, height, width)])
            shares = [LARGE + source.randrange(9) for _ in range(height)]
            mix = pairs(*[share / sum(shares) for share in shares])
            plays = ((mix, 0), (mix, width - 1), (alone(0, height), 0))
            self.assertEqual(numbers(regrets(table, plays)), own_regrets(table, plays))
            self.assertEqual(number(single_squares(table, plays)), sum(square_sum(own_more(table, play)) for play in plays))
            self.assertEqual(numbers(matched_mix(table, plays)), own_matched(table, plays)[0])


class MatchedTest(unittest.TestCase):
    def test_the_matched_mix_by_own_sums(self):
        source = seeded(10)
        seen = set()
        for at in range(160):
            table = some_table(source, *SIZES[at % 16])
            plays = some_table_plays(source, table, source.choice([0, 1, 2, 5]))
            told = matched_mix(table, plays)
            self.assertTrue(is_mix(told, len(table)))
            self.assertEqual(numbers(told), own_matched(table, plays)[0])
            seen.add(sum(value > 0 for value in own_regrets(table, plays)))
        self.assertEqual(seen, {0, 1, 2, 3, 4})

    def test_no_regret_one_and_several(self):
        table = grid([[1, 0], [0, 1], [0, 0]])
        self.assertEqual(matched_mix(table, ((alone(0, 3), 0),)), pairs(*[Fraction(1, 3)] * 3))
        self.assertEqual(matched_mix(table, ((alone(2, 3), 0),)), alone(0, 3))
        self.assertEqual(matched_mix(table, ((alone(2, 3), 0), (alone(2, 3), 1), (alone(2, 3), 1))),
                         pairs(Fraction(1, 3), Fraction(2, 3), 0))

    def test_is_matched_by_own_sums(self):
        source = seeded(11)
        seen = {True: 0, False: 0}
        for at in range(200):
            table = some_table(source, *SIZES[at % 16], 2, 1)
            plays = some_table_plays(source, table, source.choice([2, 3]))
            told = all(numbers(plays[k][0]) == own_matched(table, plays[:k])[0] or own_matched(table, plays[:k])[1]
                       for k in range(len(plays)))
            self.assertIs(is_matched(table, plays), told)
            seen[told] += 1
        self.assertGreater(min(seen.values()), 40)

    def test_no_round_and_one_round(self):
        source = seeded(12)
        for size in SIZES:
            table = some_table(source, *size)
            self.assertIs(is_matched(table, ()), True)
            for play in some_table_plays(source, table, 4):
                self.assertIs(is_matched(table, (play,)), True)

    def test_any_mix_where_no_regret_is_above_nil(self):
        table = grid([[1, 0], [0, 1]])
        for part in (0, Fraction(1, 3), 1):
            mix = pairs(part, 1 - part)
            self.assertIs(is_matched(table, ((alone(0, 2), 0), (mix, 1))), True)
        # both columns are met: then again no regret is above 0
        self.assertIs(is_matched(table, ((alone(0, 2), 0), (alone(1, 2), 1), (pairs(*[Fraction(1, 2)] * 2), 0))), True)

    def test_a_wrong_mix_in_the_first_a_middle_and_the_last_round(self):
        source = seeded(13)
        seen = set()
        for at in range(48):
            table = some_table(source, *SIZES[at % 16])
            columns = [source.randrange(len(table[0])) for _ in range(6)]
            plays = matched_plays(table, columns, pairs(*some_mix(source, len(table))))
            self.assertIs(is_matched(table, plays), True)
            for k in (1, 3, 5):
                own, any_will_do = own_matched(table, plays[:k])
                wrong = pairs(*some_mix(source, len(table)))
                told = any_will_do or numbers(wrong) == own
                self.assertIs(is_matched(table, plays[:k] + ((wrong, 0),)), told)
                self.assertIs(is_matched(table, plays[:k] + ((wrong, 0),) + ((matched_mix(
                    table, plays[:k] + ((wrong, 0),)), 0),)), told)
                seen.add((k, told))
            # any mix is right in the first round, but what is matched behind it may be another one
            other = ((alone(0, len(table)), plays[0][1]),) + plays[1:]
            self.assertIs(is_matched(table, other), all(
                own_matched(table, other[:k])[1] or numbers(other[k][0]) == own_matched(table, other[:k])[0]
                for k in range(6)))
            seen.add(is_matched(table, other))
        self.assertLessEqual({(1, False), (3, False), (5, False), (5, True), False}, seen)

    def test_just_matched_and_just_not(self):
        tiny = Fraction(1, 10 ** 80)
        for off, told in [(0, True), (tiny, False), (-tiny, False)]:
            mix = pairs(Fraction(1, 2) + off, Fraction(1, 2) - off)
            self.assertIs(is_matched(EVEN, MATCHED[:2] + ((mix, 0),)), told)
            self.assertIs(is_matched(EVEN, MATCHED[:2] + ((mix, 1), (matched_mix(EVEN, MATCHED[:2] + ((mix, 1),)), 0))),
                          told)


class BoundTest(unittest.TestCase):
    def test_the_most_square(self):
        source = seeded(20)
        for height, width in SIZES * 3:
            table = some_table(source, height, width)
            most = max(square_sum([a - b for a in column_of(table, j)]) for j in range(width)
                       for b in column_of(table, j))
            self.assertEqual(number(most_square(table)), most)
            for play in some_table_plays(source, table, 6):
                self.assertLessEqual(number(single_squares(table, (play,))), most)
            self.assertIn(most, [number(single_squares(table, ((alone(k, height), j),)))
                                 for k in range(height) for j in range(width)])

    def test_the_most_square_of_small_tables(self):
        self.assertEqual(most_square(((THREE,),)), NIL)
        self.assertEqual(most_square(((THREE, LESS, HALF),)), NIL)
        self.assertEqual(most_square(((THREE,), (ONE,), (NIL,))), (13, 1))
        self.assertEqual(most_square(((pair(LARGE),), (NIL,))), pair(LARGE ** 2))

    def test_all_columns_by_the_matched_mix(self):
        source = seeded(21)
        for height, width in SIZES:
            many = {1: 9, 2: 6, 3: 4, 4: 3}[width]
            table, first = some_table(source, height, width), pairs(*some_mix(source, height))
            most = number(most_square(table))
            value = -number(worth(told_rows([[-gain for gain in numbers(row)] for row in table])))
            for columns in product(range(width), repeat=many):
                plays = matched_plays(table, columns, first)
                left = own_regrets(table, plays)
                squares = number(single_squares(table, plays))
                self.assertLessEqual(square_sum(above(left)), squares)
                self.assertLessEqual(squares, many * most)
                gained = sum(dot(numbers(mix), column_of(table, column)) for mix, column in plays)
                self.assertGreaterEqual(gained, many * value - max(left))

    def test_forty_rounds_by_the_matched_mix(self):
        source = seeded(22)
        for height, width in [(4, 4), (3, 2), (2, 3)]:
            table = some_table(source, height, width)
            plays = matched_plays(table, [source.randrange(width) for _ in range(40)], alone(0, height))
            self.assertIs(is_matched(table, plays), True)
            self.assertLessEqual(square_sum(above(own_regrets(table, plays))), number(single_squares(table, plays)))


if __name__ == "__main__":
    unittest.main()

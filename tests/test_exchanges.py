"""Point 21 and steermeans/exchanges.py."""

import unittest
from fractions import Fraction
from itertools import product

from steermeans.exchanges import exchange_mix, exchange_squares, exchange_table, flows_evenly, is_exchanged
from steermeans.regrets import regrets
from tests.helper import grid, number, numbers, pairs, plain, seeded, some_mix
from tests.reckoning import is_mix
from tests.tallies import (LARGE, SIZES, above, alone, flows, own_exchange, own_exchanges, some_rows, some_table,
                           some_table_plays, square_sum, told_rows)

NIL, HALF, ONE = (0, 1), (1, 2), (1, 1)
EVEN, EVEN_MIX = ((ONE, NIL), (NIL, ONE)), (HALF, HALF)
PLAYS = ((EVEN_MIX, 0), (EVEN_MIX, 0), ((ONE, NIL), 1))
MATCHED = ((EVEN_MIX, 0), ((ONE, NIL), 1), (EVEN_MIX, 0))


def exchanged_plays(table, columns, first):
    """Plays along columns: the first mix as told, the others flow evenly."""
    plays = ()
    for column in columns:
        plays += ((exchange_mix(table, plays) if plays else first, column),)
    return plays


def squares_of(table, plays):
    return sum((square_sum(part for row in own_exchange(table, play) for part in row) for play in plays), Fraction(0))


def graph_plays(exchanges):
    """A table of four rows and plays of rows alone that have just these exchanges above 0: (from, to, how much).

    Each row has a column of its own, in which it alone is played.
    """
    many = 4
    rows = [[Fraction(0)] * many for _ in range(many)]
    for i, k, much in exchanges:
        rows[k][i] = Fraction(much)
    for i in range(many):
        for k in range(many):
            if rows[k][i] == 0 and k != i:
                rows[k][i] = Fraction(-1)
    return told_rows(rows), tuple((alone(i, many), i) for i in range(many))


class ExamplesTest(unittest.TestCase):
    def test_the_examples_of_the_document(self):
        self.assertEqual(
            [exchange_table(EVEN, PLAYS), exchange_mix(EVEN, PLAYS), flows_evenly(EVEN, PLAYS, EVEN_MIX),
             is_exchanged(EVEN, MATCHED), exchange_squares(EVEN, PLAYS)],
            [(((0, 1), (0, 1)), ((1, 1), (0, 1))), ((1, 1), (0, 1)), False, True, (2, 1)])

    def test_parameters_by_name(self):
        self.assertEqual(
            [exchange_table(plays=PLAYS, table=EVEN), exchange_mix(plays=PLAYS, table=EVEN),
             flows_evenly(mix=EVEN_MIX, plays=PLAYS, table=EVEN), is_exchanged(plays=MATCHED, table=EVEN),
             exchange_squares(plays=PLAYS, table=EVEN)],
            [(((0, 1), (0, 1)), ((1, 1), (0, 1))), ((1, 1), (0, 1)), False, True, (2, 1)])

    def test_equal_calls_have_equal_results(self):
        source = seeded(1)
        for size in SIZES:
            table = some_table(source, *size)
            plays = some_table_plays(source, table, 5)
            again = tuple(tuple((a, b) for a, b in row) for row in table)
            self.assertEqual(exchange_mix(table, plays), exchange_mix(again, plays))
            self.assertEqual(table, again)


class TableTest(unittest.TestCase):
    def check_sums(self, table, plays):
        own = own_exchanges(table, plays)
        told = exchange_table(table, plays)
        self.assertEqual(plain(told), own)
        self.assertEqual([sum(column) for column in zip(*own)], numbers(regrets(table, plays)))
        self.assertEqual(number(exchange_squares(table, plays)), squares_of(table, plays))

    def test_by_own_sums(self):
        source = seeded(2)
        for many in (0, 1, 2, 7, 40):
            for size in SIZES:
                table = some_table(source, *size)
                self.check_sums(table, some_table_plays(source, table, many))

    def test_no_round(self):
        for height, width in SIZES:
            table = some_table(seeded(3), height, width)
            self.assertEqual(exchange_table(table, ()), ((NIL,) * height,) * height)
            self.assertEqual(exchange_squares(table, ()), NIL)

    def test_large_numbers(self):
        source = seeded(4)
        for height, width in SIZES[::3]:
            table = told_rows([[value * LARGE + 1 / LARGE for value in row] for row in some_rows(source, height, width)])
            shares = [LARGE + source.randrange(9) for _ in range(height)]
            mix = pairs(*[share / sum(shares) for share in shares])
            self.check_sums(table, ((mix, 0), (mix, width - 1), (alone(0, height), 0)))

    def test_another_order_of_rounds(self):
        source = seeded(5)
        for size in SIZES:
            table = some_table(source, *size)
            plays = list(some_table_plays(source, table, 8))
            told = exchange_table(table, tuple(plays)), exchange_mix(table, tuple(plays))
            source.shuffle(plays)
            self.assertEqual((exchange_table(table, tuple(plays)), exchange_mix(table, tuple(plays))), told)


class MixTest(unittest.TestCase):
    def check_mix(self, table, plays):
        """The told mix flows evenly by own sums; it is returned as Fractions."""
        told = exchange_mix(table, plays)
        self.assertTrue(is_mix(told, len(table)))
        self.assertTrue(flows(own_exchanges(table, plays), numbers(told)), (table, plays, told))
        self.assertIs(flows_evenly(table, plays, told), True)
        return numbers(told)

    def test_some_mix_flows_evenly(self):
        source = seeded(10)
        for at in range(320):
            table = some_table(source, *SIZES[at % 16])
            self.check_mix(table, some_table_plays(source, table, source.choice([1, 2, 3, 6])))

    def test_no_exchange_above_nil(self):
        source = seeded(11)
        for height, width in SIZES:
            table = some_table(source, height, width)
            self.check_mix(table, ())
            best = max(range(height), key=lambda row: number(table[row][0]))
            plays = ((alone(best, height), 0),) * 3
            self.assertLessEqual(max(value for row in own_exchanges(table, plays) for value in row), 0)
            self.check_mix(table, plays)
            for _ in range(4):
                self.assertIs(flows_evenly(table, plays, pairs(*some_mix(source, height))), True)
                self.assertIs(flows_evenly(table, (), pairs(*some_mix(source, height))), True)

    def test_graph_plays_have_the_told_exchanges(self):
        table, plays = graph_plays([(0, 1, 2), (3, 1, 7)])
        own = own_exchanges(table, plays)
        self.assertEqual([(i, k, own[i][k]) for i in range(4) for k in range(4) if own[i][k] > 0], [(0, 1, 2), (3, 1, 7)])

    def test_rows_that_are_reached_by_others_but_not_back(self):
        # all that flows ends in row 1, or in rows 1 and 2, or in row 3
        self.assertEqual(self.check_mix(*graph_plays([(0, 1, 2), (2, 1, 3), (3, 0, 1)])), [0, 1, 0, 0])
        self.assertEqual(self.check_mix(*graph_plays([(0, 1, 2), (1, 2, 3), (2, 1, 5), (3, 0, 1)])),
                         [0, Fraction(5, 8), Fraction(3, 8), 0])
        self.assertEqual(self.check_mix(*graph_plays([(0, 1, 1), (1, 2, 1), (2, 3, 1), (1, 0, 4)])), [0, 0, 0, 1])

    def test_rows_that_exchange_with_one_another_around(self):
        self.assertEqual(self.check_mix(*graph_plays([(0, 1, 1), (1, 2, 2), (2, 3, 3), (3, 0, 4)])),
                         [Fraction(part, 25) for part in (12, 6, 4, 3)])
        along = [(0, 1, 1), (1, 0, 2), (1, 2, 3), (2, 1, 4), (2, 3, 5), (3, 2, 6)]
        self.assertEqual(self.check_mix(*graph_plays(along)), [Fraction(part, 35) for part in (16, 8, 6, 5)])

    def test_several_groups_that_exchange_with_themselves_alone(self):
        for told in ([(0, 1, 1), (1, 0, 2), (2, 3, 3), (3, 2, 4)], [(0, 3, 1), (3, 0, 1), (1, 2, 5), (2, 1, 7)],
                     [(1, 2, 1), (2, 1, 1)], [(0, 2, 1)], [(0, 2, 1), (1, 3, 2)], [(0, 1, 1), (1, 0, 1), (2, 3, 1)]):
            table, plays = graph_plays(told)
            self.check_mix(table, plays)
        # each mix of both groups' mixes flows evenly, too
        table, plays = graph_plays([(0, 1, 1), (1, 0, 2), (2, 3, 3), (3, 2, 4)])
        for share in (Fraction(0), Fraction(1, 3), Fraction(1)):
            mix = [2 * share / 3, share / 3, 4 * (1 - share) / 7, 3 * (1 - share) / 7]
            self.assertIs(flows_evenly(table, plays, pairs(*mix)), True)
            self.assertIs(flows_evenly(table, plays, pairs(*mix[::-1])), False)

    def test_all_exchanges_among_four_rows(self):
        pairs_of_rows = [(i, k) for i in range(4) for k in range(4) if i != k]
        source = seeded(12)
        for at in range(300):
            chosen = [(i, k, source.choice([1, 2, Fraction(1, 3)])) for i, k in pairs_of_rows if source.random() < at / 300]
            self.check_mix(*graph_plays(chosen))

    def test_large_numbers(self):
        table, plays = graph_plays([(0, 1, LARGE), (1, 2, 1 / LARGE), (2, 0, 3), (3, 2, LARGE ** 2)])
        weights = [1 / LARGE, LARGE, Fraction(1, 3), 0]
        self.assertEqual(self.check_mix(table, plays), [weight / sum(weights) for weight in weights])
        near = [weights[0] + 1 / LARGE ** 3, weights[1], weights[2], 0]
        self.assertIs(flows_evenly(table, plays, pairs(*[weight / sum(near) for weight in near])), False)

    def test_flows_evenly_by_own_sums(self):
        source = seeded(13)
        seen = {True: 0, False: 0}
        for at in range(200):
            table = some_table(source, *SIZES[at % 16], 2, 1)
            plays = some_table_plays(source, table, source.choice([1, 2, 4]))
            own = own_exchanges(table, plays)
            for mix in [some_mix(source, len(table))] + [numbers(alone(row, len(table))) for row in range(len(table))]:
                told = flows(own, mix)
                self.assertIs(flows_evenly(table, plays, pairs(*mix)), told)
                seen[told] += 1
        self.assertGreater(min(seen.values()), 100)


class ExchangedTest(unittest.TestCase):
    def test_is_exchanged_by_own_sums(self):
        source = seeded(20)
        seen = {True: 0, False: 0}
        for at in range(200):
            table = some_table(source, *SIZES[at % 16], 2, 1)
            plays = some_table_plays(source, table, source.choice([0, 1, 2, 3]))
            told = all(flows(own_exchanges(table, plays[:k]), numbers(plays[k][0])) for k in range(len(plays)))
            self.assertIs(is_exchanged(table, plays), told)
            seen[told] += 1
        self.assertGreater(min(seen.values()), 30)

    def test_a_wrong_mix_in_the_first_a_middle_and_the_last_round(self):
        source = seeded(21)
        seen = set()
        for at in range(64):
            table = some_table(source, *SIZES[at % 16])
            columns = [source.randrange(len(table[0])) for _ in range(6)]
            plays = exchanged_plays(table, columns, pairs(*some_mix(source, len(table))))
            self.assertIs(is_exchanged(table, plays), True)
            for k in (1, 3, 5):
                wrong = pairs(*some_mix(source, len(table)))
                told = flows(own_exchanges(table, plays[:k]), numbers(wrong))
                ahead = plays[:k] + ((wrong, 0),)
                self.assertIs(is_exchanged(table, ahead), told)
                self.assertIs(is_exchanged(table, ahead + ((exchange_mix(table, ahead), 0),)), told)
                seen.add((k, told))
            # any mix flows evenly behind no round
            self.assertIs(is_exchanged(table, ((alone(0, len(table)), columns[0]),)), True)
        self.assertEqual(len(seen), 6)

    def test_all_columns_by_the_told_mix(self):
        source = seeded(22)
        for height, width in SIZES:
            many = {1: 9, 2: 6, 3: 4, 4: 3}[width]
            table, first = some_table(source, height, width), pairs(*some_mix(source, height))
            for columns in product(range(width), repeat=many):
                plays = exchanged_plays(table, columns, first)
                left = square_sum(value for row in own_exchanges(table, plays) for value in above(row))
                self.assertLessEqual(left, number(exchange_squares(table, plays)))

    def test_forty_rounds_by_the_told_mix(self):
        source = seeded(23)
        for height, width in [(4, 2), (3, 3), (2, 4)]:
            table = grid([[source.randint(-2, 2) for _ in range(width)] for _ in range(height)])
            plays = exchanged_plays(table, [source.randrange(width) for _ in range(40)], alone(0, height))
            self.assertIs(is_exchanged(table, plays), True)
            left = square_sum(value for row in own_exchanges(table, plays) for value in above(row))
            self.assertLessEqual(left, number(exchange_squares(table, plays)))


if __name__ == "__main__":
    unittest.main()

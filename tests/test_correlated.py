"""Points 22, 23 and 24 and steermeans/correlated.py."""

import unittest
from fractions import Fraction
from itertools import product

from steermeans.correlated import (correlated_prices, correlated_shares, gains_left, greatest_sum, is_correlated,
                                   joint_shares, most_gained)
from tests.helper import dot, grid, number, numbers, pair, pairs, plain, seeded, some_fraction, some_mix
from tests.tallies import (LARGE, SIZES, are_prices, are_shares, gains_nothing, own_gains, some_rows, some_table,
                           told_rows, weighed)

NIL, HALF, ONE, TWO = (0, 1), (1, 2), (1, 1), (2, 1)
THIRD, SIX, SEVEN = (1, 3), (6, 1), (7, 1)
DARING, OTHER = ((SIX, TWO), (SEVEN, NIL)), ((SIX, SEVEN), (TWO, NIL))
THIRDS, BOTH = ((THIRD, THIRD), (THIRD, NIL)), (((12, 1), (9, 1)), ((9, 1), NIL))
EVEN_MIX = (HALF, HALF)


def product_shares(one, two):
    """The told shares of two mixes, Fractions."""
    return told_rows([[a * b for b in two] for a in one])


def some_shares(source, height, width):
    """Some told shares, quite often with parts that are 0."""
    parts = some_mix(source, height * width)
    return told_rows([parts[at * width:(at + 1) * width] for at in range(height)])


def at_place(row, column, height, width):
    """The told shares, or weights, of a place alone."""
    return told_rows([[int((i, j) == (row, column)) for j in range(width)] for i in range(height)])


def mean_shares(parts, shares):
    """A mean of told shares."""
    rows = [plain(told) for told in shares]
    return told_rows([[sum(part * told[i][j] for part, told in zip(parts, rows)) for j in range(len(rows[0][0]))]
                      for i in range(len(rows[0]))])


def some_rounds(source, height, width, many):
    return tuple((pairs(*some_mix(source, height)), pairs(*some_mix(source, width))) for _ in range(many))


class ExamplesTest(unittest.TestCase):
    def test_the_examples_of_the_document(self):
        self.assertEqual(
            [is_correlated(DARING, OTHER, THIRDS), gains_left(DARING, OTHER, THIRDS)[0],
             most_gained(DARING, OTHER, ((ONE, NIL), (NIL, NIL))), joint_shares(((EVEN_MIX, (ONE, NIL)),))],
            [True, (((0, 1), (-1, 3)), ((-1, 3), (0, 1))), (1, 1), (((1, 2), (0, 1)), ((1, 2), (0, 1)))])
        self.assertEqual([greatest_sum(DARING, OTHER, BOTH), correlated_shares(DARING, OTHER, BOTH)],
                         [(21, 2), (((1, 2), (1, 4)), ((1, 4), (0, 1)))])

    def test_parameters_by_name(self):
        self.assertEqual(
            [is_correlated(shares=THIRDS, second=OTHER, first=DARING),
             gains_left(shares=THIRDS, second=OTHER, first=DARING)[0],
             most_gained(shares=((ONE, NIL), (NIL, NIL)), second=OTHER, first=DARING),
             joint_shares(rounds=((EVEN_MIX, (ONE, NIL)),)), greatest_sum(weights=BOTH, second=OTHER, first=DARING),
             correlated_shares(weights=BOTH, second=OTHER, first=DARING),
             correlated_prices(weights=BOTH, second=OTHER, first=DARING)],
            [True, (((0, 1), (-1, 3)), ((-1, 3), (0, 1))), (1, 1), (((1, 2), (0, 1)), ((1, 2), (0, 1))), (21, 2),
             (((1, 2), (1, 4)), ((1, 4), (0, 1))), correlated_prices(DARING, OTHER, BOTH)])

    def test_equal_calls_have_equal_results(self):
        source = seeded(1)
        for size in SIZES:
            told = [some_table(source, *size) for _ in range(3)]
            again = [tuple(tuple((a, b) for a, b in row) for row in table) for table in told]
            self.assertEqual(correlated_shares(*told), correlated_shares(*again))
            self.assertEqual(correlated_prices(*told), correlated_prices(*again))
            self.assertEqual(told, again)


class JointTest(unittest.TestCase):
    def own_joint(self, rounds):
        rows = [[(numbers(one), numbers(two))] for one, two in rounds]
        height, width = len(rounds[0][0]), len(rounds[0][1])
        return [[sum(row[0][0][i] * row[0][1][j] for row in rows) / len(rows) for j in range(width)]
                for i in range(height)]

    def test_by_own_sums(self):
        source = seeded(10)
        for many in (1, 2, 3, 40):
            for height, width in SIZES:
                rounds = some_rounds(source, height, width, many)
                told = joint_shares(rounds)
                self.assertEqual(plain(told), self.own_joint(rounds))
                self.assertTrue(are_shares(told, height, width))
                if many <= 20:
                    self.assertEqual(joint_shares(rounds * 2), told)
                    self.assertEqual(joint_shares(rounds[::-1]), told)

    def test_one_round_is_the_product(self):
        source = seeded(11)
        for height, width in SIZES:
            one, two = some_mix(source, height), some_mix(source, width)
            self.assertEqual(joint_shares(((pairs(*one), pairs(*two)),)), product_shares(one, two))

    def test_gains_left_are_the_mean_exchanges_of_both(self):
        source = seeded(12)
        for many in (1, 2, 5, 40):
            for height, width in SIZES:
                first, second = some_table(source, height, width), some_table(source, height, width)
                u, v = plain(first), plain(second)
                rounds = some_rounds(source, height, width, many)
                mixes = [(numbers(one), numbers(two)) for one, two in rounds]
                rows = [[sum(p[i] * sum(q[j] * (u[k][j] - u[i][j]) for j in range(width)) for p, q in mixes) / many
                         for k in range(height)] for i in range(height)]
                columns = [[sum(q[j] * sum(p[i] * (v[i][k] - v[i][j]) for i in range(height)) for p, q in mixes) / many
                            for k in range(width)] for j in range(width)]
                told = gains_left(first, second, joint_shares(rounds))
                self.assertEqual([plain(told[0]), plain(told[1])], [rows, columns])

    def test_large_numbers(self):
        mix = pairs(LARGE / (LARGE + 1), 1 / (LARGE + 1))
        rounds = ((mix, mix), (mix, (HALF, HALF)), ((ONE, NIL), mix))
        self.assertEqual(plain(joint_shares(rounds)), self.own_joint(rounds))


class GainsTest(unittest.TestCase):
    def test_by_own_sums(self):
        source = seeded(20)
        seen = set()
        for height, width in SIZES * 6:
            first, second = some_table(source, height, width), some_table(source, height, width)
            shares = some_shares(source, height, width)
            told, own = gains_left(first, second, shares), own_gains(first, second, shares)
            self.assertEqual([plain(told[0]), plain(told[1])], list(own))
            most = max(gain for table in own for row in table for gain in row)
            self.assertEqual(number(most_gained(first, second, shares)), most)
            self.assertIs(is_correlated(first, second, shares), most == 0)
            seen.add((most == 0, height > 1, width > 1))
        self.assertGreater(len(seen), 5)

    def test_nil_where_nothing_is_exchanged(self):
        source = seeded(21)
        for height, width in SIZES:
            first, second = some_table(source, height, width), some_table(source, height, width)
            shares = at_place(0, 0, height, width)
            rows, columns = gains_left(first, second, shares)
            for i, j in product(range(height), range(height)):
                self.assertTrue(i == 0 or rows[i][j] == NIL)
            for i, j in product(range(width), range(width)):
                self.assertTrue(i == 0 or columns[i][j] == NIL)
            for table in (rows, columns):
                self.assertEqual({table[at][at] for at in range(len(table))}, {NIL})

    def test_one_row_and_one_column(self):
        self.assertEqual(gains_left(((SIX,),), ((TWO,),), ((ONE,),)), (((NIL,),), ((NIL,),)))
        self.assertIs(is_correlated(((SIX,),), ((TWO,),), ((ONE,),)), True)
        self.assertEqual(most_gained(((SIX, TWO),), ((ONE, TWO),), ((ONE, NIL),)), ONE)
        self.assertEqual(most_gained(((SIX, TWO),), ((ONE, TWO),), ((NIL, ONE),)), NIL)
        self.assertEqual(most_gained(((ONE,), (SIX,)), ((ONE,), (TWO,)), ((HALF,), (HALF,))), (5, 2))

    def test_shares_of_two_mixes(self):
        source = seeded(22)
        seen = {True: 0, False: 0}
        for height, width in SIZES * 12:
            first, second = some_table(source, height, width, 1, 1), some_table(source, height, width, 1, 1)
            u, v = plain(first), plain(second)
            p, q = some_mix(source, height), some_mix(source, width)
            rows = [dot(q, row) for row in u]
            columns = [dot(p, column) for column in zip(*v)]
            best = max(rows) == dot(p, rows) and max(columns) == dot(q, columns)
            self.assertIs(is_correlated(first, second, product_shares(p, q)), best)
            seen[best] += 1
        self.assertGreater(min(seen.values()), 30)

    def test_a_place_alone(self):
        source = seeded(23)
        for height, width in SIZES * 2:
            first, second = some_table(source, height, width, 2, 1), some_table(source, height, width, 2, 1)
            u, v = plain(first), plain(second)
            for i, j in product(range(height), range(width)):
                best = u[i][j] == max(row[j] for row in u) and v[i][j] == max(v[i])
                self.assertIs(is_correlated(first, second, at_place(i, j, height, width)), best)

    def test_means_of_correlated_shares(self):
        source = seeded(24)
        for height, width in SIZES:
            first, second = some_table(source, height, width), some_table(source, height, width)
            told = [correlated_shares(first, second, some_table(source, height, width)) for _ in range(3)]
            self.assertIs(is_correlated(first, second, mean_shares(some_mix(source, 3), told)), True)

    def test_just_correlated_and_just_not(self):
        tiny = Fraction(1, 10 ** 90)
        for off, told in [(0, True), (tiny, False)]:
            shares = told_rows([[Fraction(1, 2) + off, Fraction(1, 4) - off / 2], [Fraction(1, 4) - off / 2, 0]])
            self.assertIs(is_correlated(DARING, OTHER, shares), told)
            self.assertEqual(number(most_gained(DARING, OTHER, shares)),
                             max(gain for table in own_gains(DARING, OTHER, shares) for row in table for gain in row))

    def test_large_numbers(self):
        first = told_rows([[LARGE, 1 / LARGE], [LARGE + 1, 0]])
        second = told_rows([[LARGE, LARGE ** 2], [3, -LARGE]])
        shares = told_rows([[1 - 3 / LARGE, 1 / LARGE], [1 / LARGE, 1 / LARGE]])
        told, own = gains_left(first, second, shares), own_gains(first, second, shares)
        self.assertEqual([plain(told[0]), plain(told[1])], list(own))


class GreatestTest(unittest.TestCase):
    def check_greatest(self, first, second, weights):
        """The told shares have the told sum, and the told prices show that none have a greater one."""
        height, width = len(first), len(first[0])
        most = number(greatest_sum(first, second, weights))
        shares = correlated_shares(first, second, weights)
        self.assertTrue(are_shares(shares, height, width), (first, second, weights))
        self.assertTrue(gains_nothing(first, second, shares), (first, second, weights))
        self.assertIs(is_correlated(first, second, shares), True)
        self.assertEqual(weighed(weights, shares), most)
        self.assertTrue(are_prices(first, second, weights, most, correlated_prices(first, second, weights)),
                        (first, second, weights))
        return most

    def test_weights_of_either_sign_for_tables_of_every_size(self):
        source = seeded(30)
        for height, width in SIZES * 8:
            self.check_greatest(*[some_table(source, height, width) for _ in range(3)])

    def test_weights_nil_and_one_alone(self):
        source = seeded(31)
        for height, width in SIZES:
            first, second = some_table(source, height, width), some_table(source, height, width)
            self.assertEqual(self.check_greatest(first, second, ((NIL,) * width,) * height), 0)
            for i, j in product(range(height), range(width)):
                told = self.check_greatest(first, second, at_place(i, j, height, width))
                self.assertTrue(0 <= told <= 1)

    def test_one_pair_of_choices_is_correlated_alone(self):
        source = seeded(32)
        for height, width in SIZES:
            # the last row and the last column gain more, whatever the other one does
            u, v = some_rows(source, height, width), some_rows(source, height, width)
            first = told_rows([[value + 20 * (i == height - 1) for value in row] for i, row in enumerate(u)])
            second = told_rows([[value + 20 * (j == width - 1) for j, value in enumerate(row)] for row in v])
            weights = some_table(source, height, width)
            self.assertEqual(self.check_greatest(first, second, weights), number(weights[-1][-1]))
            self.assertEqual(correlated_shares(first, second, weights), at_place(height - 1, width - 1, height, width))

    def test_one_mix_each_is_correlated_alone(self):
        # matching and not matching: each one's mix is even, whatever the weights are
        for many in (2, 3, 4):
            rows = [[int(i == j) for j in range(many)] for i in range(many)]
            first, second = grid(rows), grid([[-value for value in row] for row in rows])
            weights = some_table(seeded(33 + many), many, many)
            if many == 2:
                self.assertEqual(self.check_greatest(first, second, weights), sum(map(sum, plain(weights))) / 4)
            else:
                self.check_greatest(first, second, weights)

    def test_gains_equal_everywhere(self):
        source = seeded(34)
        for height, width in SIZES:
            first, second = ((SIX,) * width,) * height, ((pair(-LARGE),) * width,) * height
            weights = some_table(source, height, width)
            self.assertEqual(self.check_greatest(first, second, weights), max(map(max, plain(weights))))

    def test_several_shares_have_the_greatest_sum(self):
        source = seeded(35)
        for many in (2, 3, 4):
            # both gain where they choose alike: so each such place is correlated, and each mean of them
            first = grid([[int(i == j) for j in range(many)] for i in range(many)])
            self.assertEqual(self.check_greatest(first, first, first), 1)
            self.assertEqual(self.check_greatest(first, first, ((ONE,) * many,) * many), 1)
            weights = some_table(source, many, many)
            self.assertGreaterEqual(self.check_greatest(first, first, weights),
                                    max(number(weights[at][at]) for at in range(many)))

    def test_corners_that_coincide(self):
        source = seeded(36)
        for height, width in SIZES * 12:
            kinds = [(-1, 0, 1), (0, 1), (0, 0, 0, 1), (0, 0, 0, Fraction(1, 2), -1)]
            told = [told_rows([[source.choice(kind) for _ in range(width)] for _ in range(height)])
                    for kind in (source.choice(kinds), source.choice(kinds), source.choice(kinds))]
            self.check_greatest(*told)

    def test_opposite_gains_and_alike_ones(self):
        source = seeded(37)
        for height, width in SIZES * 2:
            rows = some_rows(source, height, width)
            first, opposite = told_rows(rows), told_rows([[-value for value in row] for row in rows])
            weights = some_table(source, height, width)
            self.check_greatest(first, opposite, weights)
            self.check_greatest(first, first, weights)
            self.assertEqual(self.check_greatest(first, first, first), max(map(max, rows)))
            # what is gained with opposite gains is the worth, whatever the correlated shares are
            self.assertEqual(self.check_greatest(first, opposite, first), -self.check_greatest(first, opposite, opposite))

    def test_no_shares_of_a_grid_have_more(self):
        source = seeded(38)
        many = 6
        parts = [part for part in product(range(many + 1), repeat=4) if sum(part) == many]
        for _ in range(12):
            first, second, weights = [some_table(source, 2, 2, 2, 1) for _ in range(3)]
            most = self.check_greatest(first, second, weights)
            for part in parts:
                shares = told_rows([[Fraction(part[0], many), Fraction(part[1], many)],
                                    [Fraction(part[2], many), Fraction(part[3], many)]])
                if gains_nothing(first, second, shares):
                    self.assertLessEqual(weighed(weights, shares), most)

    def test_weights_times_a_factor_and_with_a_number_added(self):
        source = seeded(39)
        for height, width in SIZES:
            first, second = some_table(source, height, width), some_table(source, height, width)
            rows = some_rows(source, height, width)
            most = self.check_greatest(first, second, told_rows(rows))
            for factor, more in [(3, 0), (Fraction(1, 7), 0), (1, 5), (2, Fraction(-9, 4)), (LARGE, -LARGE), (0, 3)]:
                other = told_rows([[value * factor + more for value in row] for row in rows])
                self.assertEqual(self.check_greatest(first, second, other), most * factor + more)

    def test_both_players_exchanged(self):
        source = seeded(40)
        for height, width in SIZES:
            told = [some_table(source, height, width) for _ in range(3)]
            first, second, weights = [tuple(zip(*table)) for table in told]
            self.assertEqual(self.check_greatest(second, first, weights), self.check_greatest(*told))

    def test_gains_stretched_and_moved(self):
        source = seeded(41)
        for height, width in SIZES:
            u, v = some_rows(source, height, width), some_rows(source, height, width)
            weights = some_table(source, height, width)
            more = [some_fraction(source) for _ in range(width)]
            other = told_rows([[value * 3 + add for value, add in zip(row, more)] for row in u])
            self.assertEqual(self.check_greatest(other, told_rows(v), weights),
                             self.check_greatest(told_rows(u), told_rows(v), weights))

    def test_large_numbers(self):
        source = seeded(42)

        def some_large(kind):
            if kind == 0:
                return Fraction(source.randint(-10 ** 200, 10 ** 200), source.randint(1, 10 ** 200))
            if kind == 1:
                return source.choice([0, 1, LARGE, -LARGE, LARGE + 1, 1 / LARGE, LARGE + 1 / LARGE])
            return source.randint(-2, 2) * LARGE

        for height, width in SIZES:
            for kind in range(3):
                self.check_greatest(*[told_rows([[some_large(kind) for _ in range(width)] for _ in range(height)])
                                      for _ in range(3)])

    def test_large_numbers_that_differ_by_little(self):
        source = seeded(43)
        for height, width in SIZES:
            # rounded to less than three hundred figures all tables are alike everywhere
            told = [told_rows([[LARGE + source.randint(-2, 2) for _ in range(width)] for _ in range(height)])
                    for _ in range(3)]
            small = [told_rows([[value - LARGE for value in row] for row in plain(table)]) for table in told]
            self.assertEqual(self.check_greatest(*told), self.check_greatest(*small) + LARGE)

    def test_prices_where_both_are_the_same_are_from_nil_on(self):
        source = seeded(44)
        for height, width in SIZES:
            for table in correlated_prices(*[some_table(source, height, width) for _ in range(3)]):
                for at, row in enumerate(table):
                    self.assertGreaterEqual(number(row[at]), 0)

    def test_tables_of_one_row_or_one_column(self):
        self.assertEqual(self.check_greatest(((SIX,),), ((TWO,),), ((pair(-LARGE),),)), -LARGE)
        # the second one alone chooses: places of its greatest number alone are correlated
        self.assertEqual(self.check_greatest(((SIX, TWO, ONE),), ((ONE, TWO, TWO),), ((SEVEN, ONE, HALF),)), 1)
        self.assertEqual(self.check_greatest(((SIX,), (TWO,), (SIX,)), ((ONE,),) * 3, ((ONE,), (SEVEN,), (TWO,))), 2)

    def test_the_greatest_share_of_each_place(self):
        # s_00 is at most twice s_01 and twice s_10, s_11 at most half of each
        for i, j in product(range(2), range(2)):
            self.assertEqual(greatest_sum(DARING, OTHER, at_place(i, j, 2, 2)), [[HALF, ONE], [ONE, (1, 5)]][i][j])


if __name__ == "__main__":
    unittest.main()

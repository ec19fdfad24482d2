"""Points 27, 28 and 29 and steermeans/plans.py."""

import unittest
from fractions import Fraction
from functools import lru_cache
from itertools import product

from steermeans.plans import (best_plan, gain_of, is_plan, is_telling, least_regret, rains_against, regret_of,
                              rows_along, spoil_of, spoiling_columns, worst_columns, worst_regret, worst_wrong,
                              wrong_along)
from tests.helper import dot, grid, number, numbers, pair, pairs, plain, seeded, some_mix, strange, wrong_fractions
from tests.tallies import (LARGE, SIZES, all_plans, own_gain, own_regret, own_rows, own_worst, own_wrong, some_plan,
                           some_rows, some_table, told_rows)

NIL, HALF, ONE, TWO, LESS = (0, 1), (1, 2), (1, 1), (2, 1), (-1, 1)
ALIKE = ((ONE, NIL), (NIL, ONE))
AFTER, AGAINST = ((0,), (0, 1)), ((0,), (1, 0))
EVEN = ((HALF,), (HALF, HALF))


def most_levels(table):
    return 4 if len(table[0]) == 4 else 5


def own_least(table, levels):
    """The least worst regret, by all that can be played turn by turn: sums for each row and what was gained."""
    rows = plain(table)

    @lru_cache(maxsize=None)
    def least(left, sums, gain):
        if left == 0:
            return max(sums) - gain
        return min(max(least(left - 1, tuple(value + row[column] for value, row in zip(sums, rows)), gain + own[column])
                       for column in range(len(rows[0]))) for own in rows)

    return least(levels, (Fraction(0),) * len(rows), Fraction(0))


def wrong_levels(good, filler, most):
    """Values that are no tuple of levels, good being one of three, with two or more steps behind each other."""
    many = len(good[1])
    told = strange() + [(), ((),), good[1:], list(good), (list(good[0]),) + good[1:], good[:2] + (list(good[2]),),
                        good[:1] + good[:1], (good[1],), (good[0] + good[0],), good[:2] + (good[2][:-1],), good[:2] + ((),),
                        good[:2] + (good[2] + good[2][:1],), good[:1] + (good[1], good[1]), {0: good[0]}, (good,),
                        (good[0], good[1][0]), good + (good[2],)]
    told += [(value,) for value in strange()] + [good[:1] + (value,) for value in strange()]
    return told + [tuple((filler,) * many ** at for at in range(most + 1))]


class ExamplesTest(unittest.TestCase):
    def test_the_examples_of_the_document(self):
        self.assertEqual(
            [is_plan(ALIKE, AFTER), is_plan(ALIKE, ((0,), (0,))), rows_along(ALIKE, AFTER, (1, 0)),
             gain_of(ALIKE, AFTER, (1, 1)), regret_of(ALIKE, AFTER, (1, 1)), worst_regret(ALIKE, AFTER),
             worst_columns(ALIKE, AFTER)],
            [True, False, (0, 1), (1, 1), (1, 1), (1, 1), (1, 0)])
        self.assertEqual(
            [worst_regret(ALIKE, AGAINST), worst_columns(ALIKE, AGAINST), regret_of(ALIKE, AGAINST, (0, 1)),
             spoil_of(ALIKE, (HALF, HALF)), spoiling_columns(ALIKE, (HALF, HALF), AFTER)],
            [(2, 1), (1, 1), (-1, 1), (1, 2), (1, 0)])
        self.assertEqual([least_regret(ALIKE, 1), least_regret(ALIKE, 2), least_regret(ALIKE, 3),
                          worst_regret(ALIKE, best_plan(ALIKE, 3))], [(1, 1), (1, 1), (2, 1), (2, 1)])
        self.assertEqual([is_telling(EVEN), rains_against(EVEN), wrong_along(EVEN, (0, 0)), wrong_along(EVEN, (0, 1)),
                          worst_wrong(EVEN)], [True, (0, 0), (1, 1), (0, 1), (1, 1)])

    def test_parameters_by_name(self):
        mix = (HALF, HALF)
        self.assertEqual(
            [is_plan(value=AFTER, table=ALIKE), rows_along(columns=(1, 0), plan=AFTER, table=ALIKE),
             gain_of(columns=(1, 1), plan=AFTER, table=ALIKE), regret_of(columns=(1, 1), plan=AFTER, table=ALIKE),
             worst_regret(plan=AFTER, table=ALIKE), worst_columns(plan=AFTER, table=ALIKE), spoil_of(mix=mix, table=ALIKE),
             spoiling_columns(plan=AFTER, mix=mix, table=ALIKE), least_regret(levels=2, table=ALIKE),
             best_plan(levels=2, table=ALIKE), is_telling(value=EVEN), rains_against(telling=EVEN),
             wrong_along(rains=(0, 1), telling=EVEN), worst_wrong(telling=EVEN)],
            [True, (0, 1), (1, 1), (1, 1), (1, 1), (1, 0), (1, 2), (1, 0), (1, 1), best_plan(ALIKE, 2), True, (0, 0),
             (0, 1), (1, 1)])


class PlanTest(unittest.TestCase):
    def test_good_plans(self):
        source = seeded(1)
        for size in SIZES:
            table = some_table(source, *size)
            for levels in range(1, most_levels(table) + 1):
                self.assertIs(is_plan(table, some_plan(source, table, levels)), True)

    def test_everything_else_is_none(self):
        source = seeded(2)
        for size in SIZES:
            table = some_table(source, *size)
            good = some_plan(source, table, 3)
            for value in wrong_levels(good, 0, most_levels(table)) if len(table[0]) > 1 else strange() + [(), ((),)]:
                self.assertIs(is_plan(table, value), False, (table, value))
            for wrong in [-1, len(table), 10 ** 30, True, False, None, "0", ONE, (0,), [0], b"0"]:
                for level in range(3):
                    for at in (0, len(good[level]) - 1):
                        bent = list(good[level])
                        bent[at] = wrong
                        self.assertIs(is_plan(table, good[:level] + (tuple(bent),) + good[level + 1:]), False)

    def test_plans_for_one_column(self):
        table = ((ONE,), (TWO,))
        for levels in range(1, 6):
            self.assertIs(is_plan(table, ((1,),) * levels), True)
            self.assertIs(is_plan(table, ((1,),) * (levels - 1) + ((0, 1),)), False)
            self.assertEqual(worst_columns(table, ((0,),) * levels), (0,) * levels)
        self.assertIs(is_plan(table, ((1,),) * 6), False)

    def test_plans_for_another_number_of_columns(self):
        source = seeded(3)
        for width in range(1, 5):
            for other in range(1, 5):
                table = some_table(source, 2, width)
                for levels in range(2, 5):
                    plan = some_plan(source, some_table(source, 2, other), levels)
                    self.assertIs(is_plan(table, plan), width == other)
                self.assertIs(is_plan(table, ((1,),)), True)

    def test_five_levels_for_four_columns(self):
        for width in range(1, 5):
            table = ((ONE,) * width,) * 2
            plan = tuple((1,) * width ** at for at in range(5))
            self.assertIs(is_plan(table, plan), width < 4)
            self.assertIs(is_plan(table, plan[:4]), True)
            self.assertIs(is_plan(table, plan + ((1,) * width ** 5,)), False)

    def test_rows_for_another_number_of_rows(self):
        self.assertIs(is_plan(((ONE, TWO),), AFTER), False)
        self.assertIs(is_plan(ALIKE + ((ONE, ONE),), ((2,), (2, 0))), True)
        self.assertIs(is_plan(ALIKE, ((2,), (2, 0))), False)


class AlongTest(unittest.TestCase):
    def test_every_columns_of_small_plans(self):
        source = seeded(10)
        for height, width in SIZES:
            table = some_table(source, height, width)
            for levels in range(1, 4):
                plan = some_plan(source, table, levels)
                for columns in product(range(width), repeat=levels):
                    self.assertEqual(rows_along(table, plan, columns), tuple(own_rows(table, plan, columns)))
                    self.assertEqual(number(gain_of(table, plan, columns)), own_gain(table, plan, columns))
                    self.assertEqual(number(regret_of(table, plan, columns)), own_regret(table, plan, columns))

    def test_some_columns_of_the_largest_plans(self):
        source = seeded(11)
        for height, width in SIZES:
            table = some_table(source, height, width)
            levels = most_levels(table)
            plan = some_plan(source, table, levels)
            for _ in range(6):
                columns = tuple(source.randrange(width) for _ in range(levels))
                self.assertEqual(rows_along(table, plan, columns), tuple(own_rows(table, plan, columns)))
                self.assertEqual(number(regret_of(table, plan, columns)), own_regret(table, plan, columns))

    def test_the_worst_regret_and_the_first_columns_that_have_it(self):
        source = seeded(12)
        for height, width in SIZES * 3:
            table = some_table(source, height, width, 2, 1)
            for levels in (1, 2, 3):
                plan = some_plan(source, table, levels)
                most, columns = own_worst(table, plan)
                self.assertGreaterEqual(most, 0)
                self.assertEqual(number(worst_regret(table, plan)), most)
                self.assertEqual(worst_columns(table, plan), columns)

    def test_the_worst_regret_of_the_largest_plans(self):
        source = seeded(13)
        for height, width in [(4, 4), (4, 3), (4, 2), (4, 1), (1, 4), (2, 3)]:
            table = some_table(source, height, width)
            plan = some_plan(source, table, most_levels(table))
            most, columns = own_worst(table, plan)
            self.assertEqual((number(worst_regret(table, plan)), worst_columns(table, plan)), (most, columns))

    def test_large_numbers(self):
        source = seeded(14)
        for height, width in SIZES[::5]:
            table = told_rows([[value * LARGE + 1 / LARGE for value in row] for row in some_rows(source, height, width)])
            plan = some_plan(source, table, 3)
            most, columns = own_worst(table, plan)
            self.assertEqual((number(worst_regret(table, plan)), worst_columns(table, plan)), (most, columns))
            self.assertEqual(number(least_regret(table, 3)), own_least(table, 3))

    def test_one_row_regrets_nothing(self):
        table = ((TWO, LESS, HALF),)
        plan = ((0,), (0, 0, 0))
        self.assertEqual([worst_regret(table, plan), worst_columns(table, plan), least_regret(table, 5)], [NIL, (0, 0), NIL])


class SpoilTest(unittest.TestCase):
    def own_spoil(self, table, mix):
        rows = plain(table)
        means = [dot(mix, column) for column in zip(*rows)]
        return min(max(mean - value for mean, value in zip(means, row)) for row in rows)

    def test_the_spoil_by_own_sums(self):
        source = seeded(20)
        seen = set()
        for height, width in SIZES * 8:
            table, mix = some_table(source, height, width), some_mix(source, height)
            told = number(spoil_of(table, pairs(*mix)))
            self.assertEqual(told, self.own_spoil(table, mix))
            seen.add((told > 0) - (told < 0))
        self.assertEqual(seen, {-1, 0, 1})

    def test_each_plan_suffers_its_levels_times_the_spoil(self):
        source = seeded(21)
        for height, width in SIZES * 3:
            table, mix = some_table(source, height, width), pairs(*some_mix(source, height))
            spoil = number(spoil_of(table, mix))
            for levels in range(1, most_levels(table) + 1):
                plan = some_plan(source, table, levels)
                columns = spoiling_columns(table, mix, plan)
                self.assertEqual(len(columns), levels)
                self.assertGreaterEqual(number(regret_of(table, plan, columns)), levels * spoil)
                self.assertGreaterEqual(number(worst_regret(table, plan)), levels * spoil)
                self.assertGreaterEqual(number(least_regret(table, levels)), levels * spoil)

    def test_the_spoiling_columns_are_the_first_ones(self):
        source = seeded(22)
        for height, width in SIZES * 4:
            table, mix = some_table(source, height, width, 1, 1), some_mix(source, height)
            rows = plain(table)
            means = [dot(mix, column) for column in zip(*rows)]
            plan = some_plan(source, table, 3)
            columns = spoiling_columns(table, pairs(*mix), plan)
            for row, column in zip(own_rows(table, plan, columns), columns):
                losses = [mean - value for mean, value in zip(means, rows[row])]
                self.assertEqual(column, losses.index(max(losses)))

    def test_the_even_mix_of_alike(self):
        for levels in range(1, 6):
            for plan in (best_plan(ALIKE, levels), some_plan(seeded(levels), ALIKE, levels)):
                self.assertGreaterEqual(number(worst_regret(ALIKE, plan)), Fraction(levels, 2))
        self.assertEqual(spoil_of(ALIKE, (ONE, NIL)), NIL)
        self.assertEqual(spoil_of(((NIL, NIL), (ONE, TWO)), (ONE, NIL)), LESS)


class LeastTest(unittest.TestCase):
    def check_best(self, table, levels):
        """A plan with just the least regret; it is returned as a Fraction."""
        told = number(least_regret(table, levels))
        plan = best_plan(table, levels)
        self.assertIs(is_plan(table, plan), True)
        self.assertEqual(len(plan), levels)
        self.assertEqual(number(worst_regret(table, plan)), told)
        return told

    def test_against_all_plans_of_small_tables(self):
        source = seeded(30)
        for height, width, levels in [(1, 1, 3), (2, 1, 5), (3, 1, 4), (4, 1, 3), (2, 2, 1), (2, 2, 2), (2, 2, 3), (3, 2, 2),
                                      (4, 2, 2), (2, 3, 2), (3, 3, 2), (2, 4, 2), (1, 4, 3), (4, 4, 1), (4, 3, 1)]:
            for _ in range(3):
                table = some_table(source, height, width)
                told = self.check_best(table, levels)
                self.assertEqual(told, min(number(worst_regret(table, plan)) for plan in all_plans(table, levels)))

    def test_turn_by_turn_for_tables_of_every_size(self):
        source = seeded(31)
        for height, width in SIZES:
            table = some_table(source, height, width)
            for levels in range(1, 4):
                self.assertEqual(self.check_best(table, levels), own_least(table, levels))

    def test_the_largest_ones(self):
        source = seeded(32)
        for height, width in [(4, 4), (4, 3), (4, 2), (3, 3), (3, 4), (2, 4), (2, 3), (4, 1)]:
            for size, below in [(1, 1), (4, 3)]:
                table = some_table(source, height, width, size, below)
                levels = most_levels(table)
                self.assertEqual(self.check_best(table, levels), own_least(table, levels))

    def test_the_largest_ones_with_large_numbers(self):
        source = seeded(33)
        for height, width in [(4, 4), (4, 3)]:
            table = told_rows([[Fraction(source.randint(-10 ** 200, 10 ** 200), source.randint(1, 10 ** 200))
                                for _ in range(width)] for _ in range(height)])
            self.assertGreaterEqual(self.check_best(table, most_levels(table)), 0)

    def test_a_number_added_to_a_whole_column(self):
        source = seeded(34)
        for height, width in SIZES:
            rows = some_rows(source, height, width)
            column, more = source.randrange(width), source.choice([Fraction(7, 3), LARGE, -LARGE])
            raised = told_rows([[value + more * (at == column) for at, value in enumerate(row)] for row in rows])
            table, levels = told_rows(rows), 3
            plan = some_plan(source, table, levels)
            self.assertEqual(worst_regret(raised, plan), worst_regret(table, plan))
            self.assertEqual(worst_columns(raised, plan), worst_columns(table, plan))
            self.assertEqual(least_regret(raised, levels), least_regret(table, levels))

    def test_known_ones(self):
        for levels in range(1, 6):
            self.assertEqual(self.check_best(((ONE,), (LESS,)), levels), 0)
            self.assertEqual(self.check_best(ALIKE, levels), (levels + 1) // 2)
        self.assertEqual(self.check_best(grid([[1, 0], [0, 1], [Fraction(1, 2), Fraction(1, 2)]]), 1), Fraction(1, 2))

    def test_equal_calls_have_equal_results(self):
        table = some_table(seeded(35), 3, 3)
        again = tuple(tuple((a, b) for a, b in row) for row in table)
        self.assertEqual(best_plan(table, 4), best_plan(again, 4))
        self.assertEqual(table, again)


class TellingTest(unittest.TestCase):
    def some_telling(self, source, levels, kinds=None):
        kinds = kinds or [Fraction(source.randint(0, 6), 6) for _ in range(3)]
        return tuple(pairs(*[source.choice(kinds) for _ in range(2 ** at)]) for at in range(levels))

    def test_good_tellings_and_everything_else(self):
        source = seeded(40)
        for levels in range(1, 6):
            self.assertIs(is_telling(self.some_telling(source, levels)), True)
        self.assertIs(is_telling(self.some_telling(source, 6)), False)
        good = self.some_telling(source, 3)
        for value in wrong_levels(good, HALF, 5):
            if value != good[:1]:
                self.assertIs(is_telling(value), False, value)
        for value in wrong_fractions() + [LESS, TWO, (-1, 10 ** 60), (10 ** 60 + 1, 10 ** 60), (7, 2)]:
            for wrong in [((value,),), good[:1] + ((value, ONE),), good[:2] + ((ONE, NIL, NIL, value),)]:
                self.assertIs(is_telling(wrong), False, wrong)
        for value in (NIL, ONE, (1, 10 ** 60), (10 ** 60 - 1, 10 ** 60)):
            self.assertIs(is_telling(((value,),)), True)

    def test_wrong_along_and_the_worst_by_all_rains(self):
        source = seeded(41)
        for at in range(60):
            levels = 1 + at % 5
            telling = self.some_telling(source, levels)
            told = []
            for rains in product((0, 1), repeat=levels):
                told.append(own_wrong(telling, rains))
                self.assertEqual(number(wrong_along(telling, rains)), told[-1])
            self.assertEqual(number(worst_wrong(telling)), max(told))
            self.assertGreaterEqual(max(told), Fraction(levels, 2))

    def test_one_chance_alone_and_many(self):
        source = seeded(42)
        for levels in range(1, 6):
            for chance in (0, 1, Fraction(1, 2), Fraction(1, 3)):
                telling = self.some_telling(source, levels, [Fraction(chance)])
                for rains in product((0, 1), repeat=levels):
                    self.assertEqual(number(wrong_along(telling, rains)), abs(sum(rains) - levels * chance))
            kinds = [Fraction(at, 40) for at in range(41)]
            source.shuffle(kinds)
            telling = tuple(pairs(*kinds[2 ** at - 1:2 ** (at + 1) - 1]) for at in range(levels))
            for rains in product((0, 1), repeat=levels):
                self.assertEqual(number(wrong_along(telling, rains)), own_wrong(telling, rains))

    def test_rain_just_where_a_chance_below_a_half_is_said(self):
        source = seeded(43)
        for at in range(60):
            levels = 1 + at % 5
            telling = self.some_telling(source, levels)
            rains = rains_against(telling)
            self.assertEqual(len(rains), levels)
            place = 0
            for level, rain in zip(telling, rains):
                self.assertIs(type(rain), int)
                self.assertEqual(rain, int(number(level[place]) < Fraction(1, 2)))
                place = place * 2 + rain
            self.assertGreaterEqual(own_wrong(telling, rains), Fraction(levels, 2))

    def test_just_a_half_and_just_below(self):
        tiny = Fraction(1, 10 ** 80)
        for off, rain in [(0, 0), (tiny, 0), (-tiny, 1)]:
            self.assertEqual(rains_against(((pair(Fraction(1, 2) + off),),)), (rain,))

    def test_large_numbers(self):
        chance, other = pair(Fraction(10 ** 300, 10 ** 300 + 1)), pair(Fraction(2 ** 600, 5 ** 300))
        telling = ((chance,), (chance, other), (other, chance, chance, other))
        for rains in product((0, 1), repeat=3):
            self.assertEqual(number(wrong_along(telling, rains)), own_wrong(telling, rains))
        self.assertEqual(numbers((worst_wrong(telling),))[0],
                         max(own_wrong(telling, rains) for rains in product((0, 1), repeat=3)))


if __name__ == "__main__":
    unittest.main()

"""Points 6 and 7 and steermeans/tables.py."""

import unittest
from fractions import Fraction

from steermeans.tables import (columns_of, high_mix, is_high_mix, is_low_mix, is_table, low_mix, rows_of, turned_table,
                               worth)
from tests.helper import (dot, grid, number, numbers, pair, pairs, part_worths, plain, seeded, some_fraction, some_mix,
                          strange, turned, wrong_fractions)

NIL, HALF, ONE, TWO, THREE, LESS = (0, 1), (1, 2), (1, 1), (2, 1), (3, 1), (-1, 1)
EVEN, ODD, EVEN_MIX = ((ONE, NIL), (NIL, ONE)), ((NIL, THREE), (TWO, ONE)), (HALF, HALF)
TINY = Fraction(1, 10 ** 60)
SIZES = [(height, width) for height in range(1, 5) for width in range(1, 5)]


def examples(seed, each):
    """Tables of Fractions of every size, some of numbers without many values, so that much is alike."""
    source = seeded(seed)
    for height, width in SIZES:
        for at in range(each):
            small = at % 2 == 0
            yield [[Fraction(source.randint(-1, 1)) if small else some_fraction(source, 9, 7) for _ in range(width)]
                   for _ in range(height)]


class TablesTest(unittest.TestCase):
    def assert_mix(self, mix, many):
        parts = numbers(mix)
        self.assertEqual(len(parts), many)
        self.assertTrue(all(part >= 0 for part in parts), mix)
        self.assertEqual(sum(parts), 1)
        return parts

    def check_solved(self, rows):
        """The worth lies between what a low mix proves and what a high mix proves, and both agree."""
        table = grid(rows)
        told = number(worth(table))
        low = self.assert_mix(low_mix(table), len(rows))
        high = self.assert_mix(high_mix(table), len(rows[0]))
        self.assertEqual(max(dot(low, column) for column in turned(rows)), told)
        self.assertEqual(min(dot(high, row) for row in rows), told)
        self.assertIs(is_low_mix(table, low_mix(table)), True)
        self.assertIs(is_high_mix(table, high_mix(table)), True)
        return told

    def test_the_examples_of_the_document(self):
        self.assertEqual(
            [worth(EVEN), low_mix(EVEN), worth(ODD), low_mix(ODD), high_mix(ODD), worth(((ONE, TWO),)),
             is_table(((ONE,), (ONE, TWO)))],
            [(1, 2), ((1, 2), (1, 2)), (3, 2), ((1, 4), (3, 4)), ((1, 2), (1, 2)), (2, 1), False])
        self.assertEqual(
            [columns_of(ODD, EVEN_MIX), rows_of(ODD, EVEN_MIX), is_low_mix(ODD, EVEN_MIX), is_high_mix(ODD, EVEN_MIX),
             turned_table(ODD)],
            [((1, 1), (2, 1)), ((3, 2), (3, 2)), False, True, (((0, 1), (-2, 1)), ((-3, 1), (-1, 1)))])

    def test_worths_of_tables_of_every_size(self):
        for rows in examples(1, 40):
            with self.subTest(rows=rows):
                self.assertIn(self.check_solved(rows), part_worths(rows))

    def test_worths_of_two_rows_and_two_columns_by_their_formula(self):
        for rows in examples(2, 60):
            if (len(rows), len(rows[0])) == (2, 2):
                (a, b), (c, d) = rows
                most = min(max(a, b), max(c, d))
                least = max(min(a, c), min(b, d))
                told = most if most == least else (a * d - b * c) / (a + d - b - c)
                self.assertEqual(number(worth(grid(rows))), told)

    def test_a_table_whose_mixes_need_all_rows_and_columns(self):
        for many in range(1, 5):
            rows = [[Fraction(at + 2 if at == place else 0) for place in range(many)] for at in range(many)]
            under = sum(Fraction(1, at + 2) for at in range(many))
            mix = pairs(*[Fraction(1, at + 2) / under for at in range(many)])
            self.assertEqual(worth(grid(rows)), pair(1 / under))
            self.assertEqual((low_mix(grid(rows)), high_mix(grid(rows))), (mix, mix))

    def test_equal_rows_and_columns(self):
        rows = [[Fraction(0), Fraction(3)], [Fraction(2), Fraction(1)]]
        taller = [rows[0], rows[1], rows[0], rows[1]]
        wider = [[row[0], row[1], row[1], row[0]] for row in taller]
        for table in (rows, taller, wider, turned(wider)):
            self.check_solved(table)
        self.assertEqual([worth(grid(taller)), worth(grid(wider))], [(3, 2), (3, 2)])

    def test_opposite_numbers_across(self):
        source = seeded(3)
        for many in range(1, 5):
            for _ in range(15):
                above = [[some_fraction(source) for _ in range(many)] for _ in range(many)]
                rows = [[above[i][j] - above[j][i] for j in range(many)] for i in range(many)]
                self.assertEqual(turned_table(grid(rows)), grid(rows))
                self.assertEqual(self.check_solved(rows), 0)
                self.assertTrue(is_high_mix(grid(rows), low_mix(grid(rows))))

    def test_all_numbers_alike(self):
        for height, width in SIZES:
            for told in (Fraction(0), Fraction(5), Fraction(-7, 3)):
                rows = [[told] * width for _ in range(height)]
                self.assertEqual(self.check_solved(rows), told)

    def test_a_number_that_is_greatest_of_its_row_and_least_of_its_column(self):
        source = seeded(4)
        for height, width in SIZES:
            for _ in range(10):
                i, j, told = source.randrange(height), source.randrange(width), some_fraction(source)
                rows = [[some_fraction(source) for _ in range(width)] for _ in range(height)]
                for place in range(width):
                    rows[i][place] = told - abs(rows[i][place])
                for at in range(height):
                    rows[at][j] = told + abs(rows[at][j])
                rows[i][j] = told
                self.assertEqual(self.check_solved(rows), told)
                row = pairs(*[int(at == i) for at in range(height)])
                column = pairs(*[int(place == j) for place in range(width)])
                self.assertTrue(is_low_mix(grid(rows), row))
                self.assertTrue(is_high_mix(grid(rows), column))

    def test_one_very_large_number_beside_small_ones(self):
        large = Fraction(10 ** 390)
        for told in (large, -large, 1 / large):
            for height, width in SIZES:
                rows = [[Fraction((3 * at + 5 * place) % 4) for place in range(width)] for at in range(height)]
                rows[height - 1][width // 2] = told
                self.assertIn(self.check_solved(rows), part_worths(rows))
        self.assertEqual(worth(grid([[large, 0], [0, 1]])), pair(large / (large + 1)))

    def test_large_denominators(self):
        source = seeded(5)
        for height, width in SIZES:
            rows = [[Fraction(source.randint(-10 ** 200, 10 ** 200), source.randint(1, 10 ** 200))
                     for _ in range(width)] for _ in range(height)]
            self.check_solved(rows)
        near = Fraction(1, 2) + TINY
        self.assertEqual(worth(grid([[near, 0], [0, near]])), pair(near / 2))

    def test_what_was_returned_may_be_passed_on(self):
        source = seeded(6)
        rows = [[Fraction(source.randint(-10 ** 90, 10 ** 90), source.randint(1, 10 ** 90)) for _ in range(4)]
                for _ in range(4)]
        table = grid(rows)
        again = (columns_of(table, low_mix(table)), rows_of(table, high_mix(table)))
        self.assertTrue(is_table(again))
        self.check_solved(plain(again))

    def test_columns_and_rows_of_mixes(self):
        source = seeded(7)
        for rows in examples(8, 8):
            p, q = some_mix(source, len(rows)), some_mix(source, len(rows[0]))
            self.assertEqual(columns_of(grid(rows), pairs(*p)), pairs(*[dot(p, column) for column in turned(rows)]))
            self.assertEqual(rows_of(grid(rows), pairs(*q)), pairs(*[dot(q, row) for row in rows]))

    def test_columns_and_rows_alone(self):
        for rows in examples(9, 3):
            for at in range(len(rows)):
                alone = pairs(*[int(k == at) for k in range(len(rows))])
                self.assertEqual(columns_of(grid(rows), alone), grid(rows)[at])
            for place in range(len(rows[0])):
                alone = pairs(*[int(k == place) for k in range(len(rows[0]))])
                self.assertEqual(rows_of(grid(rows), alone), grid(turned(rows))[place])

    def test_low_and_high_mixes_are_those_that_have_the_worth(self):
        source = seeded(10)
        seen = set()
        for rows in examples(11, 12):
            told = number(worth(grid(rows)))
            for _ in range(4):
                p, q = some_mix(source, len(rows)), some_mix(source, len(rows[0]))
                low = max(dot(p, column) for column in turned(rows)) == told
                high = min(dot(q, row) for row in rows) == told
                self.assertIs(is_low_mix(grid(rows), pairs(*p)), low)
                self.assertIs(is_high_mix(grid(rows), pairs(*q)), high)
                seen.add((low, high))
        self.assertEqual(len(seen), 4)

    def test_mixes_just_beside_the_right_ones(self):
        self.assertTrue(is_low_mix(ODD, pairs(Fraction(1, 4), Fraction(3, 4))))
        self.assertTrue(is_high_mix(ODD, EVEN_MIX))
        for off in (TINY, -TINY):
            self.assertFalse(is_low_mix(ODD, pairs(Fraction(1, 4) + off, Fraction(3, 4) - off)))
            self.assertFalse(is_high_mix(ODD, pairs(Fraction(1, 2) + off, Fraction(1, 2) - off)))
        wide = grid([[0, 0], [0, 1]])
        self.assertTrue(is_low_mix(wide, (ONE, NIL)))
        self.assertFalse(is_low_mix(wide, pairs(1 - TINY, TINY)))
        self.assertTrue(is_high_mix(wide, pairs(1 - TINY, TINY)))

    def test_a_mix_with_several_low_ones_around_it(self):
        flat = grid([[1, 1], [0, 2], [2, 0]])
        for p in ([1, 0, 0], [0, Fraction(1, 2), Fraction(1, 2)], [Fraction(1, 3)] * 3):
            self.assertTrue(is_low_mix(flat, pairs(*p)))
        self.assertFalse(is_low_mix(flat, pairs(Fraction(1, 2), Fraction(1, 4) + TINY, Fraction(1, 4) - TINY)))

    def test_the_turned_table(self):
        for rows in examples(12, 8):
            table = grid(rows)
            other = turned_table(table)
            self.assertEqual(other, grid([[-told for told in column] for column in turned(rows)]))
            self.assertEqual(turned_table(other), table)
            self.assertEqual(number(worth(other)), -number(worth(table)))
            self.assertTrue(is_high_mix(other, low_mix(table)))
            self.assertTrue(is_low_mix(other, high_mix(table)))
            self.assertTrue(is_low_mix(table, high_mix(other)))
            self.assertTrue(is_high_mix(table, low_mix(other)))

    def test_a_number_added_to_all(self):
        for rows in examples(13, 4):
            for more in (Fraction(1), Fraction(-9, 4), -number(worth(grid(rows)))):
                other = [[told + more for told in row] for row in rows]
                self.assertEqual(self.check_solved(other), number(worth(grid(rows))) + more)
                self.assertTrue(is_low_mix(grid(other), low_mix(grid(rows))))

    def test_rows_and_columns_that_may_be_left_out(self):
        source = seeded(14)
        for rows in examples(15, 6):
            told = number(worth(grid(rows)))
            if len(rows) < 4:
                worse = [most + abs(some_fraction(source)) for most in source.choice(rows)]
                self.assertEqual(self.check_solved(rows + [worse]), told)
            if len(rows[0]) < 4:
                place = source.randrange(len(rows[0]))
                worse = [row + [row[place] - abs(some_fraction(source))] for row in rows]
                self.assertEqual(self.check_solved(worse), told)

    def test_equal_calls_have_equal_results_and_change_nothing(self):
        for rows in examples(16, 2):
            table = grid(rows)
            for function in (worth, low_mix, high_mix, turned_table):
                self.assertEqual(function(table), function(grid(rows)))
            self.assertEqual(table, grid(rows))

    def test_parameters_by_name(self):
        self.assertEqual([worth(table=ODD), low_mix(table=ODD), high_mix(table=ODD), is_table(value=ODD)],
                         [(3, 2), ((1, 4), (3, 4)), ((1, 2), (1, 2)), True])
        self.assertEqual(columns_of(mix=EVEN_MIX, table=ODD), ((1, 1), (2, 1)))
        self.assertEqual(rows_of(mix=EVEN_MIX, table=ODD), ((3, 2), (3, 2)))
        self.assertEqual([is_low_mix(mix=EVEN_MIX, table=ODD), is_high_mix(mix=EVEN_MIX, table=ODD)], [False, True])
        self.assertEqual(turned_table(table=((ONE, TWO),)), (((-1, 1),), ((-2, 1),)))


class IsTableTest(unittest.TestCase):
    def test_tables_of_every_size(self):
        for rows in examples(17, 2):
            self.assertIs(is_table(grid(rows)), True)

    def test_whatever_it_is(self):
        for value in strange() + wrong_fractions():
            self.assertIs(is_table(value), False, value)
        for value in strange() + [(), (1,), (1, 2), ONE]:
            self.assertIs(is_table((value,)), False, value)
            self.assertIs(is_table(((ONE,), value)), False, value)

    def test_numbers_that_are_no_fractions(self):
        for value in wrong_fractions():
            self.assertIs(is_table(((value,),)), False, value)
            self.assertIs(is_table(((ONE, TWO), (ONE, value))), False, value)

    def test_rows_and_columns_too_many_too_few_or_unlike(self):
        for value in [(), ((),), ((), ()), ((ONE,),) * 5, ((ONE,) * 5,), ((ONE,) * 5,) * 5, ((ONE,), ()),
                      ((ONE,), (ONE, TWO)), ((ONE, TWO), (ONE,)), ((ONE, TWO), (ONE, TWO), (ONE, TWO, TWO)), (ONE,),
                      (ONE, TWO), ONE]:
            self.assertIs(is_table(value), False, value)

    def test_a_list_in_the_place_of_a_tuple(self):
        for value in [[(ONE, TWO)], ([ONE, TWO],), (([1, 1], TWO),), ((ONE, [2, 1]),), ((ONE, TWO), [ONE, TWO])]:
            self.assertIs(is_table(value), False, value)
        self.assertIs(is_table(((ONE, TWO), (ONE, TWO))), True)


if __name__ == "__main__":
    unittest.main()

"""The straight programs below steermeans/correlated.py: greatest means, and what is found by rounded numbers."""

import unittest
from fractions import Fraction

from steermeans import balance
from steermeans.guessing import is_greatest, kept_parts, mean_by_guess, solved_part
from steermeans.programs import greatest_mean
from tests.helper import dot, seeded
from tests.tallies import SIZES, some_table, told_rows


def some_program(source, height, width, size, most):
    """Whole numbers of a program that is that of two tables of whole numbers."""
    first, second = [[[source.randint(-size, size) for _ in range(width)] for _ in range(height)] for _ in range(2)]
    sums = balance.left_sums([list(column) for column in zip(*first)], second)
    counts = [source.randint(1, most) for _ in range(height * width)]
    return [source.randint(-size, size) for _ in range(height * width)], counts, sums


class ProgramsTest(unittest.TestCase):
    def check_found(self, worths, counts, rows, found):
        """What was found is from 0 on, fits, and shows that there is nothing greater."""
        multiples, prices, mean, unit = found
        self.assertGreater(unit, 0)
        self.assertGreaterEqual(min(multiples + prices), 0)
        self.assertEqual(dot(counts, multiples), unit)
        self.assertEqual(sum(worth * count * multiple for worth, count, multiple in zip(worths, counts, multiples)), mean)
        self.assertTrue(all(dot(row, multiples) <= 0 for row in rows))
        for at, (worth, count) in enumerate(zip(worths, counts)):
            self.assertLessEqual(worth * count * unit, mean * count + dot(prices, [row[at] for row in rows]))
        self.assertIs(is_greatest(worths, counts, rows, found), True)

    def test_the_greatest_mean(self):
        source = seeded(1)
        for size, most in [(1, 1), (3, 1), (9, 4), (10 ** 30, 10 ** 20)]:
            for height, width in SIZES * 4:
                program = some_program(source, height, width, size, most)
                self.check_found(*program, greatest_mean(*program))

    def test_a_guess_with_what_is_kept_in_the_program_itself(self):
        source = seeded(2)
        for height, width in SIZES * 6:
            program = some_program(source, height, width, 3, 5)
            found = mean_by_guess(*program, *kept_parts(*program))
            self.check_found(*program, found)
            self.assertEqual(Fraction(found[2], found[3]), Fraction(*greatest_mean(*program)[2:]))

    def test_a_wrong_guess_is_none(self):
        source = seeded(3)
        seen = {True: 0, False: 0}
        for height, width in SIZES * 30:
            worths, counts, rows = some_program(source, height, width, 3, 5)
            many = source.randint(1, min(len(worths), len(rows) + 1))
            places, lines = source.sample(range(len(worths)), many), source.sample(range(len(rows)), many - 1)
            found = mean_by_guess(worths, counts, rows, places, lines)
            if found is not None:
                self.check_found(worths, counts, rows, found)
            seen[found is None] += 1
        self.assertGreater(min(seen.values()), 20)

    def test_parts_without_just_one_solution(self):
        self.assertIsNone(solved_part([1, 2], [1, 1], [[0, 0]], [0, 1]))
        self.assertIsNone(solved_part([1, 2], [1, 2], [[2, 4]], [0, 1]))
        self.assertEqual(solved_part([1, 2], [1, 1], [[1, -1]], [0, 1]), ([1, 1], [-1, 3], 2))

    def test_each_rounded_look_that_helps_tells_the_same(self):
        source = seeded(4)
        seen = {True: 0, False: 0}
        for height, width in SIZES[1:] * 4:
            kind = source.randrange(3)
            size = 10 ** 45
            told = [told_rows([[source.choice([Fraction(source.randint(-size, size), source.randint(1, size)),
                                               size + source.randint(-kind, kind)]) for _ in range(width)]
                               for _ in range(height)]) for _ in range(3)]
            if kind == 0:
                told[0] = some_table(source, height, width)
            looks, seen_here = balance.rounded_mean, []

            def looking(*arguments):
                seen_here.append((arguments[:3], looks(*arguments)))
                return seen_here[-1][1]

            balance.rounded_mean = looking
            try:
                most = balance.balanced(*told)[0]
            finally:
                balance.rounded_mean = looks
            for program, found in seen_here:
                seen[found is None] += 1
                mean, unit = greatest_mean(*program)[2:]
                if found is not None:
                    self.check_found(*program, found)
                    self.assertEqual(Fraction(found[2], found[3]), Fraction(mean, unit))
            self.assertEqual(balance.balanced(*told)[0], most)
        self.assertGreater(seen[False], 20)

    def test_rounded_lines(self):
        self.assertEqual(balance.rounded_lines([[(0, 1)], [(0, 1)]]), [[0], [0]])
        self.assertEqual(balance.rounded_lines([[(1, 1), (1, 2)], [(-1, 4), (0, 1)]]),
                         [[1 << 128, 1 << 127], [-(1 << 126), 0]])
        rows = balance.rounded_lines([[(10 ** 300, 7), (1, 10 ** 300)]])
        self.assertEqual(rows, [[1 << 128, 0]])


if __name__ == "__main__":
    unittest.main()

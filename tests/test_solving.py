"""Point 17, plain mixes that guide: the part of steermeans/solving.py on what is kept at most 0."""

import unittest
from fractions import Fraction

from steermeans.solving import keeping, mix_of, plain_keeping, rounded
from tests.helper import dot, grid, numbers, seeded, some_fraction, turned
from tests.reckoning import greatest_least


class KeepingTest(unittest.TestCase):
    def test_rounded_weights(self):
        source = seeded(1)
        for _ in range(300):
            weights = [source.choice([0, 1, 7, source.randint(0, 10 ** 20)]) for _ in range(source.randint(1, 4))]
            weights[0] += not any(weights)
            for bits in (0, 1, 2, 5, 64):
                told = rounded(weights, bits)
                self.assertEqual((len(told), sum(told)), (len(weights), 2 ** bits))
                for part, weight in zip(told, weights):
                    self.assertGreaterEqual(part, 0)
                    self.assertLessEqual(abs(part - Fraction(weight * 2 ** bits, sum(weights))), 1)
        self.assertEqual([rounded([1, 1], 1), rounded([0, 3], 2), rounded([1, 2, 1], 2), rounded([1, 2], 0)],
                         [[1, 1], [0, 4], [1, 2, 1], [0, 1]])
        self.assertEqual(mix_of([1, 2, 1]), ((1, 4), (1, 2), (1, 4)))

    def test_mixes_that_keep_all_columns(self):
        source = seeded(2)
        seen = set()
        for at in range(200):
            rows = [[some_fraction(source) - 1 for _ in range(1 + at % 4)] for _ in range(1 + at // 4 % 4)]
            told = greatest_least(rows) <= 0
            for function in (keeping, plain_keeping):
                mix = function(grid(rows))
                self.assertIs(mix is not None, told)
                if told:
                    parts = numbers(mix)
                    self.assertEqual((len(parts), sum(parts)), (len(rows), 1))
                    self.assertTrue(min(parts) >= 0 and all(dot(parts, column) <= 0 for column in turned(rows)))
            seen.add(told)
        self.assertEqual(seen, {True, False})

    def test_plain_mixes_where_they_are_enough(self):
        large = Fraction(10 ** 90 + 1, 10 ** 90)
        # the even mix, but for a little, is the low one: it has to be told by large numbers only without room
        rows = [[large - Fraction(1, 5), -large], [-large, 1 - Fraction(1, 5)]]
        self.assertEqual(plain_keeping(grid(rows)), ((1, 2), (1, 2)))
        self.assertGreater(keeping(grid(rows))[0][1], 10 ** 80)
        rows = [[-large, Fraction(1, 9)], [Fraction(-1), Fraction(-2)]]
        self.assertIn(plain_keeping(grid(rows)), [((1, 1), (0, 1)), ((0, 1), (1, 1))])
        share = Fraction(10 ** 40 + 1, 3 * 10 ** 40)
        tight = [[1 - share, share - 1], [-share, share]]
        self.assertEqual(numbers(plain_keeping(grid(tight))), [share, 1 - share])


if __name__ == "__main__":
    unittest.main()

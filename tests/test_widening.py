"""Point 16, how the least level is found: steermeans/widening.py and steermeans/climbing.py."""

import unittest
from fractions import Fraction
from unittest import mock

from steermeans import climbing
from steermeans.climbing import climbed, height, is_higher, leads_to, meeting, rise
from steermeans.widening import kept_level, least_level, level_between, rounded_up
from tests.helper import seeded
from tests.reckoning import greatest_least, tilted_rows


def whole_rows(source, height, width, size):
    return [[source.randint(-size, size) for _ in range(width)] for _ in range(height)]


def examples(seed, many):
    """Pairs of tables of whole numbers, of every size."""
    source = seeded(seed)
    for at in range(many):
        height, width, size = 1 + at % 3, 1 + at // 3 % 3, source.choice([3, 100, 10 ** 12])
        yield whole_rows(source, height, width, size), whole_rows(source, height, width, size), source


def worth_at(one, two, share):
    rows = [[Fraction(told) for told in row] for row in one], [[Fraction(told) for told in row] for row in two]
    return greatest_least(tilted_rows(*rows, share))


class WideningTest(unittest.TestCase):
    def test_what_was_climbed_is_a_worth_not_below_the_start(self):
        for one, two, source in examples(1, 90):
            unit = source.choice([1, 10, 10 ** 9])
            start = (source.randint(0, 5), source.randint(1, 5))
            above, below = climbed(one, two, unit, start)
            told = Fraction(above, below)
            at_start = worth_at(one, two, Fraction(start[1], start[0] + start[1]))
            self.assertGreaterEqual(told, at_start - Fraction(unit, 4))
            self.assertLessEqual(told, max(max(row + other) for row, other in zip(one, two)))

    def test_what_was_climbed_is_the_greatest_worth_of_one_column(self):
        for one, two, source in examples(2, 90):
            one, two = [row[:1] for row in one], [row[:1] for row in two]
            above, below = climbed(one, two, 1, (1, 1))
            # two rows and two sides settle it: the greatest worth of one column is that of its rows and both sides
            most = greatest_least([[Fraction(row[0]), Fraction(other[0])] for row, other in zip(one, two)])
            self.assertLessEqual(Fraction(above, below), most)
            self.assertGreaterEqual(Fraction(above, below), most - Fraction(1, 2))

    def test_climbing_takes_few_points(self):
        source = seeded(4)
        for figures in (5, 60, 300):
            many = []
            for _ in range(12):
                one, two = [whole_rows(source, 2, 1, 10 ** figures) for _ in range(2)]
                with mock.patch.object(climbing, "point_at", wraps=climbing.point_at) as counted:
                    climbed(one, two, 1, (source.randint(1, 9), source.randint(1, 9)))
                many.append(counted.call_count)
            # where two lines meet, they tell the share at once
            self.assertLessEqual(max(many), 8)
            one, two = ([[0, 3 * 10 ** figures], [10 ** figures, 0]], [[2 * 10 ** figures, 0], [0, 7 * 10 ** figures]])
            with mock.patch.object(climbing, "point_at", wraps=climbing.point_at) as counted:
                climbed(one, two, 1, (1, 1))
            self.assertLessEqual(counted.call_count, 8 * figures + 9)

    def test_lines_of_points(self):
        # at 20 of 100, and at 70: worths times 6 and times 2
        one, two = (20, 0, 60, 6), (70, 20, -10, 2)
        self.assertEqual((height(one, 100), height(two, 100)), (20 * 60, 30 * 20 - 70 * 10))
        self.assertEqual((is_higher(one, two, 100), is_higher(two, one, 100), is_higher(one, one, 100)),
                         (True, False, False))
        self.assertEqual((leads_to(one, two), leads_to(two, one)), (True, True))
        self.assertEqual((leads_to(one, (10, 0, 0, 1)), leads_to(two, (80, 0, 0, 1))), (False, False))
        # 10 t is 10 - 15 t at 2 / 5, and 10 - 16 t at 5 / 13
        self.assertEqual((meeting(one, two, 100), meeting(two, one, 100)), (40, 40))
        self.assertEqual(meeting(one, (70, 20, -12, 2), 100), 38)
        self.assertEqual(meeting(one, (70, 1, 21, 2), 100), 20)
        self.assertEqual((rise(one, 40), rise(two, 40), rise(one, 20)), (1200, 900, 0))

    def test_the_least_level_without_climbing(self):
        for one, two, _ in examples(3, 60):
            told = least_level((one, 3), (two, 2), 0)
            # nothing is climbed, or 0 is told for it
            with mock.patch("steermeans.widening.climbed", lambda *_: (0, 1)):
                self.assertEqual(least_level((one, 3), (two, 2), 0), told)
            for start in (told, told + 1, told + 10 ** 6):
                self.assertEqual(least_level((one, 3), (two, 2), start), start)
            for start in range(max(0, told - 3), told):
                self.assertEqual(least_level((one, 3), (two, 2), start), told)

    def test_levels_between(self):
        for least in list(range(40)) + [10 ** 30, 2 ** 99 - 1, 2 ** 99]:
            for most in [least + more for more in (1, 2, 3, 4, 5, 17, 10 ** 9, 10 ** 60)] + [least * least + 1]:
                if least < most:
                    told = level_between(least, most)
                    self.assertTrue(least <= told < most, (least, most))
        low, high, steps = 0, 2 ** 1000, 0
        while low < high:
            middle = level_between(low, high)
            low, high, steps = (low, middle, steps + 1) if middle >= 77 else (middle + 1, high, steps + 1)
        self.assertEqual(low, 77)
        self.assertLess(steps, 30)

    def test_rounding_up_and_a_level_that_keeps(self):
        self.assertEqual([rounded_up(above, 3) for above in (-4, -3, -1, 0, 1, 3, 4)], [-1, -1, 0, 0, 1, 1, 2])
        self.assertEqual(kept_level([[1, 9], [4, 2]], [[3, 3], [5, 0]], 2), 3)


if __name__ == "__main__":
    unittest.main()

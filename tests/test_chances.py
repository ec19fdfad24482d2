"""Points 25 and 26 and steermeans/chances.py."""

import unittest
from fractions import Fraction
from itertools import product

from steermeans.chances import (day_squares, is_steady, left_squares, over_of, said_mix, steady_mix, under_of)
from tests.helper import number, numbers, pairs, seeded, some_mix
from tests.reckoning import is_mix
from tests.tallies import LARGE, above, alone, own_over_under, some_days, square_sum

NIL, ONE, HALF = (0, 1), (1, 1), (1, 2)
LOW, HIGH = (ONE, NIL), (NIL, ONE)
DAYS = ((LOW, 1), (HIGH, 0))


def off_over(steps, g, rain):
    return rain - Fraction(g, steps) - Fraction(1, 2 * steps)


def off_under(steps, g, rain):
    return Fraction(g, steps) - Fraction(1, 2 * steps) - rain


def own_steady(steps, days, mix):
    """Whether a mix, Fractions, is steady behind some days, by the sums of [26]."""
    over, under = [above(values) for values in own_over_under(steps, days)]
    return all(sum(part * (over[g] * off_over(steps, g, rain) + under[g] * off_under(steps, g, rain))
                   for g, part in enumerate(mix)) <= 0 for rain in (0, 1))


def own_said(steps, days):
    """The mix for the next day, by [26]."""
    over, under = own_over_under(steps, days)
    for g in range(steps + 1):
        if over[g] <= 0 and under[g] <= 0:
            return numbers(alone(g, steps + 1))
    for g in range(steps):
        if over[g] > 0 and under[g + 1] > 0:
            share = under[g + 1] / (over[g] + under[g + 1])
            return [share if at == g else 1 - share if at == g + 1 else Fraction(0) for at in range(steps + 1)]
    raise AssertionError("no mix is told")


def said_days(steps, rains, first=None):
    """Days with these rains: the first mix as told, the others as the package says them."""
    days = ()
    for rain in rains:
        days += ((said_mix(steps, days) if days or first is None else first, rain),)
    return days


def opposite(days):
    """Rain and none exchanged, each mix turned round."""
    return tuple((mix[::-1], 1 - rain) for mix, rain in days)


class ExamplesTest(unittest.TestCase):
    def test_the_examples_of_the_document(self):
        self.assertEqual([said_mix(1, ()), said_mix(1, ((LOW, 1),)), said_mix(1, ((LOW, 1), (HIGH, 0))), said_mix(2, ())],
                         [((1, 1), (0, 1)), ((0, 1), (1, 1)), ((1, 2), (1, 2)), ((1, 1), (0, 1), (0, 1))])
        self.assertEqual(
            [over_of(1, DAYS), under_of(1, DAYS), left_squares(1, DAYS), day_squares(1, DAYS), is_steady(1, DAYS),
             is_steady(1, ((LOW, 1), (LOW, 1))), steady_mix(1, DAYS, LOW)],
            [((1, 2), (-3, 2)), ((-3, 2), (1, 2)), (1, 2), (5, 1), True, False, False])
        self.assertEqual(left_squares(1, DAYS + (((HALF, HALF), 1),)), (5, 8))

    def test_parameters_by_name(self):
        self.assertEqual(
            [said_mix(days=DAYS, steps=1), over_of(days=DAYS, steps=1), under_of(days=DAYS, steps=1),
             left_squares(days=DAYS, steps=1), day_squares(days=DAYS, steps=1), is_steady(days=DAYS, steps=1),
             steady_mix(mix=LOW, days=DAYS, steps=1)],
            [((1, 2), (1, 2)), ((1, 2), (-3, 2)), ((-3, 2), (1, 2)), (1, 2), (5, 1), True, False])


class SumsTest(unittest.TestCase):
    def check_sums(self, steps, days):
        over, under = own_over_under(steps, days)
        self.assertEqual(numbers(over_of(steps, days)), over)
        self.assertEqual(numbers(under_of(steps, days)), under)
        self.assertFalse(any(one > 0 and other > 0 for one, other in zip(over, under)))
        self.assertTrue(over[-1] <= 0 and under[0] <= 0)
        for g in range(steps + 1):
            said = sum((numbers(mix)[g] for mix, _ in days), Fraction(0))
            self.assertEqual(number(over_of(steps, days)[g]) + number(under_of(steps, days)[g]), -said / steps)
        self.assertEqual(number(left_squares(steps, days)), square_sum(above(over) + above(under)))
        self.assertEqual(number(day_squares(steps, days)), sum(
            (part * part * (off_over(steps, g, rain) ** 2 + off_under(steps, g, rain) ** 2)
             for mix, rain in days for g, part in enumerate(numbers(mix))), Fraction(0)))

    def test_by_own_sums(self):
        source = seeded(1)
        for steps in range(1, 7):
            for many in (0, 1, 2, 5, 13, 40):
                for _ in range(3):
                    self.check_sums(steps, some_days(source, steps, many))

    def test_no_day(self):
        for steps in range(1, 7):
            nil = (NIL,) * (steps + 1)
            self.assertEqual([over_of(steps, ()), under_of(steps, ()), left_squares(steps, ()), day_squares(steps, ())],
                             [nil, nil, NIL, NIL])

    def test_large_numbers(self):
        source = seeded(2)
        for steps in range(1, 7):
            shares = [[LARGE + source.randrange(9) for _ in range(steps + 1)] for _ in range(4)]
            days = tuple((pairs(*[part / sum(parts) for part in parts]), source.randrange(2)) for parts in shares)
            self.check_sums(steps, days)
            self.assertEqual(numbers(said_mix(steps, days)), own_said(steps, days))

    def test_the_opposite_days(self):
        source = seeded(3)
        for steps in range(1, 7):
            days = some_days(source, steps, 9)
            turned = opposite(days)
            self.assertEqual(over_of(steps, turned), under_of(steps, days)[::-1])
            self.assertEqual(under_of(steps, turned), over_of(steps, days)[::-1])
            for function in (left_squares, day_squares, is_steady):
                self.assertEqual(function(steps, turned), function(steps, days))
            for mix in [pairs(*some_mix(source, steps + 1)) for _ in range(5)]:
                self.assertEqual(steady_mix(steps, turned, mix[::-1]), steady_mix(steps, days, mix))


class SaidTest(unittest.TestCase):
    def test_the_said_mix(self):
        source = seeded(10)
        seen = set()
        for at in range(600):
            steps = 1 + at % 6
            days = some_days(source, steps, source.choice([0, 1, 2, 4, 9]))
            told = said_mix(steps, days)
            self.assertTrue(is_mix(told, steps + 1))
            self.assertEqual(numbers(told), own_said(steps, days))
            self.assertIs(steady_mix(steps, days, told), True)
            self.assertTrue(own_steady(steps, days, numbers(told)))
            seen.add((steps, tuple(part > 0 for part in numbers(told))))
        self.assertGreater(len(seen), 25)

    def test_a_chance_surely_is_the_least_one(self):
        # nothing was said of 0 and of 1: the least one is taken
        self.assertEqual(said_mix(3, ((alone(1, 4), 1), (alone(1, 4), 1))), alone(0, 4))
        # over 0 and under 1, then nothing left of 2 and 3
        days = ((alone(0, 4), 1), (alone(1, 4), 0))
        self.assertEqual([number(told) > 0 for told in over_of(3, days) + under_of(3, days)],
                         [True, False, False, False, False, True, False, False])
        self.assertEqual(said_mix(3, days), alone(2, 4))

    def test_the_least_two_neighbours(self):
        # over 0 and 2, under 1 and 3: both pairs would do
        days = ((alone(0, 4), 1), (alone(1, 4), 0), (alone(2, 4), 1), (alone(3, 4), 0), (alone(3, 4), 0))
        over, under = own_over_under(3, days)
        self.assertEqual([value > 0 for value in over + under], [True, False, True, False, False, True, False, True])
        share = under[1] / (over[0] + under[1])
        self.assertEqual(numbers(said_mix(3, days)), [share, 1 - share, 0, 0])
        # over 0 and 1, under 2 and 3: one pair alone
        days = ((alone(0, 4), 1), (alone(1, 4), 1), (alone(1, 4), 1), (alone(2, 4), 0), (alone(3, 4), 0))
        over, under = own_over_under(3, days)
        self.assertEqual([value > 0 for value in over + under], [True, True, False, False, False, False, True, True])
        share = under[2] / (over[1] + under[2])
        self.assertEqual(numbers(said_mix(3, days)), [0, share, 1 - share, 0])

    def test_all_rains_by_the_said_mixes(self):
        source = seeded(11)
        for steps in range(1, 7):
            first = pairs(*some_mix(source, steps + 1))
            for rains in product((0, 1), repeat=7):
                for days in (said_days(steps, rains), said_days(steps, rains, first)):
                    self.assertIs(is_steady(steps, days), True)
                    left, most = number(left_squares(steps, days)), number(day_squares(steps, days))
                    self.assertLessEqual(left, most)
                    for g in range(steps + 1):
                        parts = [(numbers(mix)[g], rain) for mix, rain in days]
                        off = abs(sum(part * (rain - Fraction(g, steps)) for part, rain in parts))
                        beyond = off - sum(part for part, _ in parts) / (2 * steps)
                        self.assertTrue(beyond <= 0 or beyond ** 2 <= most)

    def test_more_days_by_the_said_mixes(self):
        # the figures of the said mixes may double from day to day
        source = seeded(12)
        for steps in range(1, 7):
            days = said_days(steps, [source.randrange(2) for _ in range(16)])
            self.assertIs(is_steady(steps, days), True)
            self.assertLessEqual(number(left_squares(steps, days)), number(day_squares(steps, days)))

    def test_forty_days_on_which_one_chance_is_said_surely(self):
        for steps in range(1, 7):
            days = ()
            for at in range(40):
                mix = said_mix(steps, days)
                # with the other rain two chances might be said, and figures would grow
                ahead = [days + ((mix, rain),) for rain in (at % 2, 1 - at % 2)]
                days = min(ahead, key=lambda told: max(part[1] for part in said_mix(steps, told)))
            self.assertIs(is_steady(steps, days), True)
            self.assertEqual(numbers(over_of(steps, days)), own_over_under(steps, days)[0])
            self.assertLessEqual(number(left_squares(steps, days)), number(day_squares(steps, days)))


class SteadyTest(unittest.TestCase):
    def test_steady_mixes_by_own_sums(self):
        source = seeded(20)
        seen = {True: 0, False: 0}
        for at in range(200):
            steps = 1 + at % 6
            days = some_days(source, steps, source.choice([0, 1, 2, 5]))
            mixes = [numbers(alone(g, steps + 1)) for g in range(steps + 1)] + [some_mix(source, steps + 1)]
            said = numbers(said_mix(steps, days))
            for share in (Fraction(1, 2), Fraction(1, 10 ** 60)):
                mixes.append([(1 - share) * one + share * two for one, two in zip(said, mixes[-1])])
            for mix in mixes:
                told = own_steady(steps, days, mix)
                self.assertIs(steady_mix(steps, days, pairs(*mix)), told)
                seen[told] += 1
        self.assertGreater(min(seen.values()), 200)

    def test_each_mix_behind_no_day(self):
        source = seeded(21)
        for steps in range(1, 7):
            for mix in [some_mix(source, steps + 1), numbers(alone(steps, steps + 1)), numbers(alone(0, steps + 1))]:
                self.assertIs(steady_mix(steps, (), pairs(*mix)), True)
                self.assertIs(is_steady(steps, ((pairs(*mix), 1),)), True)
            self.assertIs(is_steady(steps, ()), True)

    def test_just_steady_and_just_not(self):
        for off in (0, Fraction(1, 10 ** 80), -Fraction(1, 10 ** 80)):
            mix = pairs(HALF[0] * Fraction(1, 2) + off, Fraction(1, 2) - off)
            self.assertIs(steady_mix(1, DAYS, mix), off == 0)

    def test_is_steady_by_own_sums(self):
        source = seeded(22)
        seen = {True: 0, False: 0}
        for at in range(300):
            steps = 1 + at % 6
            days = some_days(source, steps, source.choice([1, 2, 3]))
            told = all(own_steady(steps, days[:k], numbers(days[k][0])) for k in range(len(days)))
            self.assertIs(is_steady(steps, days), told)
            seen[told] += 1
        self.assertGreater(min(seen.values()), 60)

    def test_a_wrong_mix_on_the_first_a_middle_and_the_last_day(self):
        source = seeded(23)
        seen = set()
        for at in range(90):
            steps = 1 + at % 6
            days = said_days(steps, [source.randrange(2) for _ in range(6)], pairs(*some_mix(source, steps + 1)))
            self.assertIs(is_steady(steps, days), True)
            for k in (1, 3, 5):
                wrong = pairs(*some_mix(source, steps + 1))
                told = own_steady(steps, days[:k], numbers(wrong))
                ahead = days[:k] + ((wrong, 1),)
                self.assertIs(is_steady(steps, ahead), told)
                self.assertIs(is_steady(steps, ahead + ((said_mix(steps, ahead), 0),)), told)
                seen.add((k, told))
            self.assertIs(is_steady(steps, ((pairs(*some_mix(source, steps + 1)), 0),)), True)
        self.assertEqual(len(seen), 6)


if __name__ == "__main__":
    unittest.main()

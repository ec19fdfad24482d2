"""Point 30 and steermeans/certificates.py: each told pair is a claim that is so and a paper that shows it."""

import unittest
from fractions import Fraction

from steermeans.certificates import (certify_answer, certify_correlated, certify_guiding, certify_led, certify_sum,
                                     certify_widening, certify_worth)
from steermeans.checker import accepts
from steermeans.correlated import correlated_shares, greatest_sum
from steermeans.leading import least_widening
from steermeans.tables import worth
from tests.helper import grid, number, numbers, pair, pairs, plain, seeded, some_mix
from tests.reckoning import (beside, can_be_led, facing, greatest_least, guides, inside, is_shown, mean, moved, nearest_of,
                             some_full_field, some_game, spots, told_game)
from tests.tallies import LARGE, SIZES, are_prices, gains_nothing, own_gains, some_table, told_rows, weighed

NIL, HALF, ONE, TWO, LESS = (0, 1), (1, 2), (1, 1), (2, 1), (-1, 1)
TICK, CROSS = (((NIL, NIL), (NIL, NIL)), ((ONE, NIL), (ONE, ONE))), (((LESS, TWO),), ((TWO, LESS),))
LEAN = ((LESS, NIL, (-1, 2)), (NIL, ONE, HALF))
TIGHT = ((LESS, NIL, (-1, 2)), (NIL, ONE, (1, 4)))
QUARTER = ((ONE, NIL, NIL), (NIL, ONE, NIL))
DOWN = (NIL, ONE)
GAMES = [(height, width) for height in range(1, 4) for width in range(1, 4)]
SIX, SEVEN, THIRD = (6, 1), (7, 1), (1, 3)
DARING, OTHER = ((SIX, TWO), (SEVEN, NIL)), ((SIX, SEVEN), (TWO, NIL))
THIRDS, BOTH = ((THIRD, THIRD), (THIRD, NIL)), (((12, 1), (9, 1)), ((9, 1), NIL))


class CertificateTest(unittest.TestCase):
    def check_pair(self, told, *parts):
        """The claim has the very arguments, and accepts takes the paper; claim and paper are returned."""
        self.assertIs(type(told), tuple)
        claim, paper = told
        self.assertIs(type(claim), tuple)
        self.assertIs(type(claim[0]), str)
        for one, part in zip(claim[1:], parts):
            self.assertIs(one, part)
        self.assertIs(accepts(claim, paper), True, told)
        return claim, paper


class ExamplesTest(CertificateTest):
    def test_the_examples_of_the_document(self):
        self.assertEqual(
            [certify_led(TICK, LEAN)[0][0], certify_led(CROSS, QUARTER)[0][0], certify_answer(TICK, LEAN, DOWN)[1],
             certify_widening(CROSS, QUARTER, (ONE, ONE), 4)[0][5]],
            ["led", "barred", ((1, 2), (1, 2)), 2])

    def test_the_pairs_of_the_examples(self):
        self.assertEqual(certify_led(TICK, LEAN), (("led", TICK, LEAN), ()))
        self.assertEqual(certify_led(CROSS, QUARTER)[0], ("barred", CROSS, QUARTER))
        self.assertEqual(certify_answer(TICK, LEAN, DOWN), (("answered", TICK, LEAN, DOWN), ((1, 2), (1, 2))))
        self.assertEqual(certify_answer(TICK, TIGHT, DOWN)[0], ("unanswered", TICK, TIGHT, DOWN))
        self.assertEqual(certify_widening(CROSS, QUARTER, (ONE, ONE), 4),
                         (("widening", CROSS, QUARTER, (ONE, ONE), 4, 2), ()))
        self.assertEqual(certify_guiding(CROSS, QUARTER, (ONE, ONE)), (("unguided", CROSS, QUARTER, (ONE, ONE)), (ONE,)))
        self.assertEqual(certify_correlated(DARING, OTHER, THIRDS), (("correlated", DARING, OTHER, THIRDS), ()))
        self.assertEqual(certify_sum(DARING, OTHER, BOTH, (21, 2))[0], ("sum up to", DARING, OTHER, BOTH, (21, 2)))
        self.assertEqual(certify_sum(DARING, OTHER, BOTH, (10, 1)),
                         (("sum above", DARING, OTHER, BOTH, (10, 1)), (((1, 2), (1, 4)), ((1, 4), (0, 1)))))

    def test_parameters_by_name(self):
        self.assertEqual(
            [certify_worth(table=DARING), certify_led(field=LEAN, game=TICK), certify_answer(mix=DOWN, field=LEAN, game=TICK),
             certify_guiding(place=(ONE, ONE), field=QUARTER, game=CROSS),
             certify_widening(many=4, widths=(ONE, ONE), field=QUARTER, game=CROSS),
             certify_correlated(shares=THIRDS, second=OTHER, first=DARING),
             certify_sum(fraction=ONE, weights=BOTH, second=OTHER, first=DARING)],
            [certify_worth(DARING), certify_led(TICK, LEAN), certify_answer(TICK, LEAN, DOWN),
             certify_guiding(CROSS, QUARTER, (ONE, ONE)), certify_widening(CROSS, QUARTER, (ONE, ONE), 4),
             certify_correlated(DARING, OTHER, THIRDS), certify_sum(DARING, OTHER, BOTH, ONE)])


class WorthTest(CertificateTest):
    def test_worths(self):
        source = seeded(1)
        for size in SIZES * 3:
            table = some_table(source, *size)
            claim, _ = self.check_pair(certify_worth(table), table)
            self.assertEqual((claim[0], len(claim), claim[2]), ("worth", 3, worth(table)))
            self.assertEqual(number(claim[2]), greatest_least(plain(table)))


class LedTest(CertificateTest):
    def test_led_and_barred_fields(self):
        source = seeded(10)
        seen = {"led": 0, "barred": 0}
        for at in range(90):
            game, field = some_game(source, *GAMES[at % 9]), some_full_field(source)
            claim, paper = self.check_pair(certify_led(game, field), game, field)
            self.assertEqual((claim[0], len(claim)), ("led" if can_be_led(game, field) else "barred", 3))
            self.assertTrue(paper == () if claim[0] == "led" else is_shown(game, field, *paper))
            seen[claim[0]] += 1
        self.assertGreater(min(seen.values()), 20)

    def test_large_numbers(self):
        for off in (0, 1 / LARGE ** 2, -1 / LARGE ** 2):
            game = told_game([[(-LARGE, LARGE + 1)], [(LARGE + 1, -LARGE)]])
            field = grid([[1, 0, Fraction(1, 2)], [0, 1, Fraction(1, 2) + off]])
            claim, _ = self.check_pair(certify_led(game, field), game, field)
            self.assertEqual(claim[0], "led" if off >= 0 else "barred")


class AnswerTest(CertificateTest):
    def test_answered_and_unanswered_mixes(self):
        source = seeded(20)
        seen = {"answered": 0, "unanswered": 0}
        for at in range(120):
            game, field = some_game(source, *GAMES[at % 9]), some_full_field(source)
            mix = pairs(*some_mix(source, len(game[0])))
            claim, paper = self.check_pair(certify_answer(game, field, mix), game, field, mix)
            if claim[0] == "answered":
                self.assertTrue(inside(field, mean(numbers(paper), beside(game, numbers(mix)))))
            else:
                self.assertTrue(is_shown(game, field, mix, paper))
            self.assertEqual(len(claim), 4)
            seen[claim[0]] += 1
        self.assertGreater(min(seen.values()), 30)


class GuidingTest(CertificateTest):
    def test_guided_and_unguided_places(self):
        source = seeded(30)
        seen = {}
        for at in range(150):
            game, field = some_game(source, *GAMES[at % 9]), some_full_field(source)
            spot = (Fraction(source.randint(-9, 9), 2), Fraction(source.randint(-9, 9), 3))
            place = pairs(*spot)
            claim, paper = self.check_pair(certify_guiding(game, field, place), game, field, place)
            if claim[0] == "guided":
                self.assertTrue(guides(game, field, spot, paper))
            else:
                near = nearest_of(field, spot)
                self.assertTrue(all(facing(spot, near, told) > 0 for told in beside(game, numbers(paper))))
            rows = [[facing(spot, nearest_of(field, spot), told) for told in row] for row in spots(game)]
            self.assertEqual((claim[0], len(claim)), ("guided" if greatest_least(rows) <= 0 else "unguided", 4))
            key = (claim[0], inside(field, spot))
            seen[key] = seen.get(key, 0) + 1
        self.assertEqual(set(seen), {("guided", True), ("guided", False), ("unguided", False)})
        self.assertGreater(min(seen.values()), 15)


class WideningTest(CertificateTest):
    def test_widenings(self):
        source = seeded(40)
        seen = set()
        for at in range(36):
            game, field = some_game(source, *GAMES[at % 9]), some_full_field(source)
            widths = pairs(*[Fraction(source.randint(1, 3), source.randint(1, 3)) for _ in field])
            many = source.choice([1, 2, 7, 1000])
            claim, paper = self.check_pair(certify_widening(game, field, widths, many), game, field, widths, many)
            self.assertEqual((claim[0], len(claim), paper), ("widening", 6, ()))
            self.assertEqual(claim[5], least_widening(game, field, widths, many))
            self.assertIs(type(claim[5]), int)
            self.assertTrue(can_be_led(game, moved(field, widths, Fraction(claim[5], many))))
            seen.add(claim[5] == 0)
        self.assertEqual(seen, {True, False})

    def test_none_needed_and_a_large_one(self):
        self.assertEqual(certify_widening(TICK, LEAN, (ONE, ONE), 1000)[0][5], 0)
        game, field, widths = told_game([[(LARGE, 1)]]), QUARTER[:1], pairs(1 / LARGE)
        told = self.check_pair(certify_widening(game, field, widths, 7), game, field, widths)
        self.assertEqual(told[0][5], -(-7 * LARGE ** 2 // 1))


class CorrelatedTest(CertificateTest):
    def test_correlated_shares_and_others(self):
        source = seeded(50)
        seen = {}
        for height, width in SIZES * 6:
            first, second = some_table(source, height, width), some_table(source, height, width)
            parts = some_mix(source, height * width)
            other = told_rows([parts[at * width:(at + 1) * width] for at in range(height)])
            for shares in (other, correlated_shares(first, second, first)):
                claim, paper = self.check_pair(certify_correlated(first, second, shares), first, second, shares)
                told = gains_nothing(first, second, shares)
                self.assertEqual((claim[0], len(claim)), ("correlated" if told else "not correlated", 4))
                if told:
                    self.assertEqual(paper, ())
                else:
                    who, one, two = paper
                    self.assertEqual({type(at) for at in paper}, {int})
                    self.assertGreater(own_gains(first, second, shares)[who][one][two], 0)
                key = (claim[0], paper[:1])
                seen[key] = seen.get(key, 0) + 1
        self.assertEqual(set(seen), {("correlated", ()), ("not correlated", (0,)), ("not correlated", (1,))})


class SumTest(CertificateTest):
    def test_sums_at_just_above_and_just_below_the_greatest_one(self):
        source = seeded(60)
        for height, width in SIZES * 2:
            first, second, weights = [some_table(source, height, width) for _ in range(3)]
            most = number(greatest_sum(first, second, weights))
            for off in (0, Fraction(1, 10 ** 100), -Fraction(1, 10 ** 100), 1000, -1000):
                told = pair(most + off)
                claim, paper = self.check_pair(certify_sum(first, second, weights, told), first, second, weights, told)
                self.assertEqual((claim[0], len(claim)), ("sum up to" if off >= 0 else "sum above", 5))
                if off >= 0:
                    self.assertTrue(are_prices(first, second, weights, most, paper))
                else:
                    self.assertTrue(gains_nothing(first, second, paper))
                    self.assertGreater(weighed(weights, paper), most + off)

    def test_large_numbers(self):
        source = seeded(61)
        for height, width in [(2, 2), (3, 2), (4, 4)]:
            told = [told_rows([[Fraction(source.randint(-10 ** 150, 10 ** 150), source.randint(1, 10 ** 150))
                                for _ in range(width)] for _ in range(height)]) for _ in range(3)]
            most = greatest_sum(*told)
            self.assertEqual(self.check_pair(certify_sum(*told, most), *told, most)[0][0], "sum up to")
            less = pair(number(most) - 1 / LARGE)
            self.assertEqual(self.check_pair(certify_sum(*told, less), *told, less)[0][0], "sum above")


if __name__ == "__main__":
    unittest.main()

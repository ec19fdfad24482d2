"""Point 30 and steermeans/checker.py."""

import unittest
from fractions import Fraction
from itertools import product
from math import gcd

from steermeans.checker import accepts
from tests.calls import EMPTY
from tests.helper import dot, grid, pairs, plain, seeded, some_mix, strange
from tests.reckoning import (against, beside, can_be_led, excess_rows, facing, greatest_least, guides, inside, is_shown,
                             mean, moved, nearest_of, some_full_field, some_game, told_game)
from tests.tallies import SIZES, are_prices, gains_nothing, own_gains, some_table, told_rows, weighed

NIL, HALF, ONE, TWO, THREE, LESS = (0, 1), (1, 2), (1, 1), (2, 1), (3, 1), (-1, 1)
EVEN, ODD = ((ONE, NIL), (NIL, ONE)), ((NIL, THREE), (TWO, ONE))
TICK, CROSS = (((NIL, NIL), (NIL, NIL)), ((ONE, NIL), (ONE, ONE))), (((LESS, TWO),), ((TWO, LESS),))
LEAN = ((LESS, NIL, (-1, 2)), (NIL, ONE, HALF))
TIGHT = ((LESS, NIL, (-1, 2)), (NIL, ONE, (1, 4)))
QUARTER = ((ONE, NIL, NIL), (NIL, ONE, NIL))
UP, DOWN = (ONE, NIL), (NIL, ONE)
SIX, SEVEN, THIRD, QUART = (6, 1), (7, 1), (1, 3), (1, 4)
DARING, OTHER = ((SIX, TWO), (SEVEN, NIL)), ((SIX, SEVEN), (TWO, NIL))
THIRDS, BOTH = ((THIRD, THIRD), (THIRD, NIL)), (((12, 1), (9, 1)), ((9, 1), NIL))
CORNER = ((ONE, NIL), (NIL, NIL))
PRICES = ((NIL, (3, 4)), (NIL, NIL))
BEST = ((HALF, QUART), (QUART, NIL))

# for each word a claim that is so, with a paper that shows it
GOOD = {
    "worth": (("worth", ODD, (3, 2)), ((QUART, (3, 4)), (HALF, HALF))),
    "led": (("led", TICK, LEAN), ()),
    "barred": (("barred", CROSS, QUARTER), ((ONE,), (ONE, ONE))),
    "answered": (("answered", TICK, LEAN, DOWN), (HALF, HALF)),
    "unanswered": (("unanswered", TICK, TIGHT, DOWN), (ONE, ONE)),
    "guided": (("guided", TICK, LEAN, (NIL, NIL)), (HALF, HALF)),
    "unguided": (("unguided", CROSS, QUARTER, (ONE, ONE)), (ONE,)),
    "widening": (("widening", CROSS, QUARTER, (ONE, ONE), 4, 2), ()),
    "correlated": (("correlated", DARING, OTHER, THIRDS), ()),
    "not correlated": (("not correlated", DARING, OTHER, CORNER), (0, 0, 1)),
    "sum up to": (("sum up to", DARING, OTHER, BOTH, (21, 2)), (PRICES, PRICES)),
    "sum above": (("sum above", DARING, OTHER, BOTH, (10, 1)), BEST),
}

PAPERS = [paper for _, paper in GOOD.values()] + [
    (UP, DOWN), (DOWN, UP), UP, DOWN, (QUART, (3, 4)), (1, 0, 1), (0, 1, 0), (1, 1, 0), ((HALF, HALF), (ONE, NIL)),
    ((ONE,), (NIL, ONE)), ((ONE,), (ONE, NIL)), ((ONE,), (ONE,)), (NIL, NIL), (ONE, NIL), (NIL, ONE), (TWO, THREE),
    (((NIL, NIL), (NIL, NIL)),) * 2, ((HALF, QUART), (QUART, NIL)), CORNER, ((NIL, NIL), (NIL, ONE)), ((ONE,), (ONE,)),
    ((DOWN, (ONE, ONE))), (UP, (ONE, ONE)), (((THREE, THREE), (THREE, THREE)),) * 2]


def bends(value):
    """A value with one thing in it that is wrong, whatever stands for it: of another kind, or not in lowest terms."""
    if type(value) is tuple:
        yield from (list(value), None, {}, str(value), {at: told for at, told in enumerate(value)})
        if len(value) == 2 and type(value[0]) is int and type(value[1]) is int and gcd(*value) == 1 and value[1] > 0:
            above, below = value
            yield from ((2 * above, 2 * below), (-above, -below), (above, 0), (above,), (above, below, 1), above,
                        Fraction(above, below))
        for at, told in enumerate(value):
            for bent in bends(told):
                yield value[:at] + (bent,) + value[at + 1:]
    elif type(value) is int:
        yield from (None, str(value), (value,), [value], Fraction(value), b"1", {})
        if value in (0, 1):
            yield value == 1
    elif type(value) is str:
        yield from (None, value + " ", value.upper(), value.encode(), (value,), [value], 1, "")


class CheckerTest(unittest.TestCase):
    def check_told(self, claim, paper, expected):
        told = accepts(claim, paper)
        self.assertIs(told, expected, (claim, paper))

    def check_never(self, claim):
        """A claim that no paper shows."""
        for paper in PAPERS + [None, [], (), True, (0, 0, 1), (1, 1, 1)]:
            self.check_told(claim, paper, False)


class ExamplesTest(CheckerTest):
    def test_the_examples_of_the_document(self):
        self.assertEqual(
            [accepts(("barred", CROSS, QUARTER), ((ONE,), (ONE, ONE))), accepts(("barred", CROSS, QUARTER), ((ONE,), (ONE, NIL))),
             accepts(("led", TICK, LEAN), ()), accepts(("led", TICK, LEAN), []), accepts(("led", CROSS, QUARTER), ())],
            [True, False, True, False, False])

    def test_parameters_by_name(self):
        self.assertIs(accepts(paper=(), claim=("led", TICK, LEAN)), True)
        self.assertIs(accepts(paper=(), claim=("led", CROSS, QUARTER)), False)

    def test_each_word_with_a_paper_that_shows_it(self):
        for claim, paper in GOOD.values():
            self.check_told(claim, paper, True)

    def test_a_paper_of_another_word(self):
        for word, (claim, _) in GOOD.items():
            for other, (_, paper) in GOOD.items():
                # (1 / 2, 1 / 2) are weights, too, that show it
                if paper != GOOD[word][1] and (word, paper) != ("unanswered", (HALF, HALF)):
                    self.check_told(claim, paper, False)


class FormsTest(CheckerTest):
    def test_every_part_of_a_claim_bent(self):
        many = 0
        for claim, paper in GOOD.values():
            for bent in bends(claim):
                self.check_told(bent, paper, False)
                self.check_told(bent, (), False)
                many += 1
        self.assertGreater(many, 1000)

    def test_every_part_of_a_paper_bent(self):
        for claim, paper in GOOD.values():
            for bent in bends(paper):
                self.check_told(claim, bent, False)

    def test_nothing_alone_where_no_paper_is_told(self):
        for word in ("led", "widening", "correlated"):
            claim = GOOD[word][0]
            for paper in strange() + [[], None, ((),), (None,), (1,), ((), ()), "", {}, ((ONE,), (ONE, ONE)), (0, 0, 1)]:
                self.check_told(claim, paper, False)

    def test_claims_with_an_element_more_or_fewer(self):
        for claim, paper in GOOD.values():
            for other in [claim[:-1], claim + (claim[-1],), claim + ((),), claim + (None,), claim[:1], (), claim[1:],
                          claim[:1] + claim, claim + claim[1:], (claim,), claim[:-1] + (claim[-1], claim[-1], 0)]:
                self.check_told(other, paper, False)
                self.check_told(other, (), False)

    def test_papers_with_an_element_more_or_fewer(self):
        for claim, paper in GOOD.values():
            for other in [paper[:-1], paper + (paper[-1:] or ((),)), paper + (None,), (paper,), paper + paper]:
                if other != paper:
                    self.check_told(claim, other, False)

    def test_a_word_that_is_none(self):
        for claim, paper in GOOD.values():
            for word in ["", "none", "Led", "led ", " worth", "uncorrelated", "not led", "sum", "sum below", "accepts",
                         b"led", None, 3, ("led",), True]:
                self.check_told((word,) + claim[1:], paper, False)
                self.check_told((word,) + claim[1:], (), False)

    def test_claims_and_papers_of_any_kind(self):
        deep = ONE
        for _ in range(12):
            deep = (deep, deep)
        for value in strange() + [deep, (), ((),), ("led",), ("worth",), ("worth", ODD), ("led", deep, deep)]:
            for other in strange()[::3] + [(), deep]:
                self.check_told(value, other, False)
            for claim, paper in GOOD.values():
                self.check_told(value, paper, False)
                if value != () or paper != ():
                    self.check_told(claim, value, False)
                for at in range(len(claim)):
                    self.check_told(claim[:at] + (value,) + claim[at + 1:], paper, False)

    def test_empty_fields(self):
        for claim, paper in [(("led", TICK, EMPTY), ()), (("barred", CROSS, EMPTY), ((ONE,), (ONE, ONE))),
                             (("answered", TICK, EMPTY, DOWN), (HALF, HALF)), (("unanswered", TICK, EMPTY, DOWN), (ONE, ONE)),
                             (("guided", TICK, EMPTY, (NIL, NIL)), (HALF, HALF)), (("unguided", CROSS, EMPTY, (ONE, ONE)), (ONE,)),
                             (("widening", CROSS, EMPTY, (ONE, ONE), 4, 0), ()), (("widening", CROSS, EMPTY, (ONE, ONE), 4, 9), ())]:
            self.check_told(claim, paper, False)
            self.check_never(claim)

    def test_games_and_fields_and_tables_that_are_too_large(self):
        side, place = (ONE, ONE, (9, 1)), (NIL, NIL)
        for rows, columns, sides, told in [(3, 3, 5, True), (4, 1, 1, False), (1, 4, 1, False), (1, 1, 6, False)]:
            game, field = ((place,) * columns,) * rows, (side,) * sides
            mix, other = pairs(*[1] + [0] * (columns - 1)), pairs(*[1] + [0] * (rows - 1))
            self.check_told(("led", game, field), (), told)
            self.check_told(("answered", game, field, mix), other, told)
            self.check_told(("guided", game, field, (SIX, SIX)), other, told)
            self.check_told(("widening", game, field, (ONE,) * sides, 1, 0), (), told)
            far = (((-9, 1), NIL, LESS),) * sides
            self.check_told(("barred", game, far), (mix, (ONE,) * sides), told)
            self.check_told(("unanswered", game, far, mix), (ONE,) * sides, told)
            self.check_told(("unguided", game, far, place), mix, told)
        for rows, columns, told in [(4, 4, True), (5, 1, False), (1, 5, False)]:
            table = ((ONE,) * columns,) * rows
            mix, other = pairs(*[1] + [0] * (columns - 1)), pairs(*[1] + [0] * (rows - 1))
            shares = told_rows([[int(i == j == 0) for j in range(columns)] for i in range(rows)])
            prices = (((NIL,) * rows,) * rows, ((NIL,) * columns,) * columns)
            self.check_told(("worth", table, ONE), (other, mix), told)
            self.check_told(("correlated", table, table, shares), (), told)
            self.check_told(("sum up to", table, table, table, ONE), prices, told)
            self.check_told(("sum above", table, table, table, NIL), shares, told)

    def test_tables_of_unlike_size(self):
        other = ((ONE, NIL),)
        for word in ("correlated", "not correlated", "sum up to", "sum above"):
            claim, paper = GOOD[word]
            self.check_told(claim[:1] + (other,) + claim[2:], paper, False)
            self.check_told(claim[:2] + (other,) + claim[3:], paper, False)
            self.check_told(claim[:3] + (other,) + claim[4:], paper, False)


class WorthTest(CheckerTest):
    def test_of_all_numbers_one_alone_has_a_paper(self):
        low, high = GOOD["worth"][1]
        for most in [(3, 2), (1, 1), (2, 1), (3 * 10 ** 80 + 1, 2 * 10 ** 80), (3 * 10 ** 80 - 1, 2 * 10 ** 80)]:
            self.check_told(("worth", ODD, most), (low, high), most == (3, 2))
            for one in (low, UP, DOWN, (HALF, HALF)):
                for two in (high, UP, DOWN, (QUART, (3, 4))):
                    self.check_told(("worth", ODD, most), (one, two), (most, one, two) == ((3, 2), low, high))

    def test_by_own_worths(self):
        source = seeded(1)
        seen = {True: 0, False: 0}
        for size in SIZES * 6:
            table = some_table(source, *size, 1, 1)
            rows = plain(table)
            p, q = some_mix(source, len(rows)), some_mix(source, len(rows[0]))
            columns, sums = [dot(p, column) for column in zip(*rows)], [dot(q, row) for row in rows]
            for most in {max(columns), min(sums)}:
                told = max(columns) <= most <= min(sums)
                self.check_told(("worth", table, pairs(most)[0]), (pairs(*p), pairs(*q)), told)
                if told:
                    self.assertEqual(greatest_least(rows), most)
                seen[told] += 1
        self.assertGreater(min(seen.values()), 15)

    def test_mixes_with_another_sum_or_of_another_size(self):
        table = ((NIL, NIL), (NIL, NIL))
        for wrong in [(ONE, ONE), (NIL, NIL), (HALF, THIRD), (TWO, LESS), (ONE,), (ONE, NIL, NIL), (), (HALF, (2, 4))]:
            self.check_told(("worth", table, NIL), (wrong, UP), False)
            self.check_told(("worth", table, NIL), (UP, wrong), False)
        self.check_told(("worth", table, NIL), (DOWN, UP), True)


class LedTest(CheckerTest):
    def test_led_and_barred_exclude_one_another(self):
        source = seeded(10)
        seen = {True: 0, False: 0}
        for at in range(60):
            game, field = some_game(source, 1 + at % 3, 1 + at // 3 % 3), some_full_field(source, 1 + at % 4)
            led = can_be_led(game, field)
            self.check_told(("led", game, field), (), led)
            for _ in range(12):
                mix = pairs(*some_mix(source, len(game[0])))
                weights = pairs(*[source.choice([0, 1, 2, Fraction(1, 3)]) for _ in field])
                told = is_shown(game, field, mix, weights)
                self.check_told(("barred", game, field), (mix, weights), told)
                self.check_told(("unanswered", game, field, mix), weights, told)
                self.assertFalse(told and led)
            seen[led] += 1
        self.assertGreater(min(seen.values()), 15)

    def test_weights_that_are_all_nil_or_below(self):
        for weights in [(NIL, NIL), (LESS, LESS), (ONE, LESS), (ONE,), (ONE, ONE, ONE), (), (ONE, NIL)]:
            self.check_told(("barred", CROSS, QUARTER), ((ONE,), weights), False)
            self.check_told(("unanswered", CROSS, QUARTER, (ONE,)), weights, False)
        for weights in [(ONE, ONE), (HALF, HALF), (TWO, TWO), ((10 ** 90, 1), (10 ** 90, 1)), (THREE, TWO)]:
            self.check_told(("barred", CROSS, QUARTER), ((ONE,), weights), True)
            self.check_told(("unanswered", CROSS, QUARTER, (ONE,)), weights, True)

    def test_more_than_two_weights(self):
        field = QUARTER + ((ONE, ONE, HALF), (LESS, LESS, (9, 1)))
        self.check_told(("barred", CROSS, field), ((ONE,), (ONE, ONE, THIRD, NIL)), True)
        self.check_told(("barred", CROSS, field), ((ONE,), (NIL, NIL, NIL, NIL)), False)
        self.check_told(("barred", CROSS, field), ((ONE,), (NIL, NIL, NIL, ONE)), False)

    def test_just_barred_and_just_led(self):
        for off, led in [(0, True), (-Fraction(1, 10 ** 90), False), (Fraction(1, 10 ** 90), True)]:
            field = grid([[1, 0, Fraction(1, 2)], [0, 1, Fraction(1, 2) + off]])
            self.check_told(("led", CROSS, field), (), led)
            self.check_told(("barred", CROSS, field), ((ONE,), (ONE, ONE)), not led)

    def test_claims_that_are_not_so(self):
        self.check_never(("led", CROSS, QUARTER))
        self.check_never(("barred", TICK, LEAN))
        self.check_never(("led", TICK, TIGHT))


class AnswerTest(CheckerTest):
    def test_answered_and_unanswered_exclude_one_another(self):
        source = seeded(20)
        seen = set()
        for at in range(150):
            game, field = some_game(source, 1 + at % 3, 1 + at // 3 % 3), some_full_field(source)
            mix = some_mix(source, len(game[0]))
            for _ in range(4):
                rows = some_mix(source, len(game))
                told = inside(field, mean(rows, beside(game, mix)))
                self.check_told(("answered", game, field, pairs(*mix)), pairs(*rows), told)
                weights = pairs(*[source.choice([0, 1, 2]) for _ in field])
                shown = is_shown(game, field, pairs(*mix), weights)
                self.check_told(("unanswered", game, field, pairs(*mix)), weights, shown)
                self.assertFalse(told and shown)
                seen.add((told, shown))
        self.assertEqual(len(seen), 3)

    def test_claims_that_are_not_so(self):
        self.check_never(("answered", TICK, TIGHT, DOWN))
        self.check_never(("unanswered", TICK, LEAN, DOWN))

    def test_mixes_of_the_claim(self):
        for wrong in [(ONE, ONE), (NIL, NIL), (TWO, LESS), (ONE,), (NIL, ONE, NIL), (), (NIL, (2, 2)), None]:
            self.check_told(("answered", TICK, LEAN, wrong), (HALF, HALF), False)
            self.check_told(("unanswered", TICK, TIGHT, wrong), (ONE, ONE), False)
        for wrong in [(ONE, ONE), (NIL, NIL), (TWO, LESS), (ONE,), (HALF, HALF, NIL), (), (HALF, (2, 4))]:
            self.check_told(("answered", TICK, LEAN, DOWN), wrong, False)


class GuidedTest(CheckerTest):
    def test_guided_and_unguided_exclude_one_another(self):
        source = seeded(30)
        seen = set()
        for at in range(150):
            game, field = some_game(source, 1 + at % 3, 1 + at // 3 % 3), some_full_field(source)
            place = (Fraction(source.randint(-9, 9), 2), Fraction(source.randint(-9, 9), 3))
            for _ in range(4):
                rows, columns = some_mix(source, len(game)), some_mix(source, len(game[0]))
                told = guides(game, field, place, pairs(*rows))
                self.check_told(("guided", game, field, pairs(*place)), pairs(*rows), told)
                beyond = self.is_beyond(game, field, place, columns)
                self.check_told(("unguided", game, field, pairs(*place)), pairs(*columns), beyond)
                self.assertFalse(told and beyond)
                seen.add((told, beyond))
        self.assertEqual(len(seen), 3)

    def is_beyond(self, game, field, place, columns):
        near = nearest_of(field, place)
        return all(facing(place, near, worth) > 0 for worth in beside(game, columns))

    def test_at_a_place_in_the_field(self):
        for place in [(ONE, NIL), (HALF, HALF), (SIX, (-9, 1))]:
            for mix in (UP, DOWN, (HALF, HALF)):
                self.check_told(("guided", TICK, LEAN, place), mix, True)
                self.check_told(("unguided", TICK, LEAN, place), mix, False)

    def test_claims_that_are_not_so(self):
        self.check_never(("guided", CROSS, QUARTER, (ONE, ONE)))
        self.check_never(("unguided", TICK, LEAN, (NIL, NIL)))

    def test_wrong_places_and_mixes(self):
        for wrong in [ONE, (ONE,), (ONE, ONE, ONE), (ONE, (2, 2)), (ONE, 1), [ONE, ONE], None]:
            self.check_told(("guided", TICK, LEAN, wrong), (HALF, HALF), False)
            self.check_told(("unguided", CROSS, QUARTER, wrong), (ONE,), False)
        for wrong in [(ONE, ONE), (NIL, NIL), (TWO, LESS), (ONE,), (HALF, HALF, NIL), (), (HALF, (2, 4))]:
            self.check_told(("guided", TICK, LEAN, (NIL, NIL)), wrong, False)
        for wrong in [(ONE, NIL), (HALF,), (), (TWO,), (NIL,), ((2, 2),), ONE]:
            self.check_told(("unguided", CROSS, QUARTER, (ONE, ONE)), wrong, False)


class WideningTest(CheckerTest):
    def test_the_least_one_alone(self):
        for many, least in [(1, 1), (2, 1), (3, 2), (4, 2), (999, 500), (1000, 500)]:
            for told in range(-3, 6):
                self.check_told(("widening", CROSS, QUARTER, (ONE, ONE), many, least + told), (), told == 0)
        for told in (10 ** 60, -10 ** 60, 10 ** 399):
            self.check_told(("widening", CROSS, QUARTER, (ONE, ONE), 4, told), (), False)

    def test_nothing_is_needed(self):
        for told in (-1, 0, 1, 2, False, True):
            self.check_told(("widening", TICK, LEAN, (ONE, ONE), 4, told), (), told == 0 and told is not False)

    def test_what_is_led_by_far_is_not_widened_by_less_than_nothing(self):
        game, field = told_game([[(0, 0)]]), grid([[1, 0, Fraction(3, 2)]])
        for told in (-3, -2, -1, 0, 1):
            self.check_told(("widening", game, field, (ONE,), 1, told), (), told == 0)

    def test_an_empty_field_is_none_though_it_may_be_widened(self):
        game = told_game([[(3, 0)]])
        for told in range(-1, 6):
            self.check_told(("widening", game, EMPTY, (ONE, ONE), 1, told), (), False)
            self.check_told(("widening", game, QUARTER, (ONE, ONE), 1, told), (), told == 3)

    def test_many_and_widths(self):
        for many in (0, -1, 1001, 10 ** 9, True, None, ONE, "4"):
            for least in (0, 1, 2, 500, 501):
                self.check_told(("widening", CROSS, QUARTER, (ONE, ONE), many, least), (), False)
        for widths in [(ONE,), (ONE, ONE, ONE), (), (ONE, NIL), (LESS, ONE), (ONE, (2, 2)), [ONE, ONE], None, (ONE, 1)]:
            for least in (0, 1, 2, 3):
                self.check_told(("widening", CROSS, QUARTER, widths, 4, least), (), False)
        for least in (None, "2", TWO, (2,), [2], Fraction(2), b"2"):
            self.check_told(("widening", CROSS, QUARTER, (ONE, ONE), 4, least), (), False)

    def test_by_own_reckoning(self):
        source = seeded(40)
        for at in range(24):
            game, field = some_game(source, 1 + at % 3, 1 + at // 3 % 3, 2, 1), some_full_field(source, 1 + at % 3)
            widths = pairs(*[Fraction(source.randint(1, 3), source.randint(1, 2)) for _ in field])
            led = [can_be_led(game, moved(field, widths, Fraction(k, 2))) for k in range(6)]
            for k in range(6):
                self.check_told(("widening", game, field, widths, 2, k), (), led[k] and not any(led[:k]))


class CorrelatedTest(CheckerTest):
    def test_correlated_and_not_exclude_one_another(self):
        source = seeded(50)
        seen = {True: 0, False: 0}
        for height, width in SIZES * 12:
            first, second = some_table(source, height, width, 1, 1), some_table(source, height, width, 1, 1)
            parts = some_mix(source, height * width)
            shares = told_rows([parts[at * width:(at + 1) * width] for at in range(height)])
            told = gains_nothing(first, second, shares)
            self.check_told(("correlated", first, second, shares), (), told)
            rows, columns = own_gains(first, second, shares)
            claim = ("not correlated", first, second, shares)
            for who, table in enumerate((rows, columns)):
                for i, k in product(range(-1, len(table) + 1), repeat=2):
                    inner = 0 <= i < len(table) and 0 <= k < len(table)
                    self.check_told(claim, (who, i, k), inner and table[i][k] > 0)
            seen[told] += 1
        self.assertGreater(min(seen.values()), 20)

    def test_wrong_places_of_gains(self):
        claim, _ = GOOD["not correlated"]
        for wrong in [(), (0,), (0, 0), (0, 0, 1, 0), (2, 0, 1), (-1, 0, 1), (0, -2, 1), (0, 0, -1), (0, 0, 2), (0, 2, 1),
                      (False, 0, 1), (0, False, 1), (0, 0, True), (NIL, NIL, ONE), [0, 0, 1], ("0", 0, 1), (0, 0, 10 ** 30)]:
            self.check_told(claim, wrong, False)

    def test_wrong_shares(self):
        for wrong in [((ONE, NIL),), ((ONE, NIL), (NIL, ONE)), ((NIL, NIL), (NIL, NIL)), ((TWO, LESS), (NIL, NIL)),
                      ((ONE, NIL), (NIL,)), ((ONE, NIL), [NIL, NIL]), (((2, 2), NIL), (NIL, NIL)), None]:
            self.check_told(("correlated", DARING, OTHER, wrong), (), False)
            self.check_told(("not correlated", DARING, OTHER, wrong), (0, 0, 1), False)
            self.check_told(("sum above", DARING, OTHER, BOTH, NIL), wrong, False)

    def test_claims_that_are_not_so(self):
        self.check_never(("correlated", DARING, OTHER, CORNER))
        self.check_never(("not correlated", DARING, OTHER, THIRDS))


class SumTest(CheckerTest):
    def test_by_own_sums(self):
        source = seeded(60)
        seen = {}
        for height, width in SIZES * 8:
            first, second, weights = [some_table(source, height, width, 1, 1) for _ in range(3)]
            rows, columns = [told_rows([[source.choice([0, 0, 1, 2, Fraction(1, 2)]) for _ in range(many)]
                                        for _ in range(many)]) for many in (height, width)]
            parts = some_mix(source, height * width)
            if source.random() < 0.5:
                best = source.randrange(height * width)
                parts = [Fraction(int(at == best)) for at in range(height * width)]
            shares = told_rows([parts[at * width:(at + 1) * width] for at in range(height)])
            for most in (Fraction(-1, 2), Fraction(0), Fraction(1), Fraction(2)):
                told = pairs(most)[0]
                shown = are_prices(first, second, weights, most, (rows, columns))
                self.check_told(("sum up to", first, second, weights, told), (rows, columns), shown)
                over = gains_nothing(first, second, shares) and weighed(weights, shares) > most
                self.check_told(("sum above", first, second, weights, told), shares, over)
                self.assertFalse(shown and over)
                seen[shown, over] = seen.get((shown, over), 0) + 1
        self.assertEqual(len(seen), 3)
        self.assertGreater(min(seen.values()), 10)

    def test_at_just_above_and_just_below(self):
        for off in (0, Fraction(1, 10 ** 90), -Fraction(1, 10 ** 90)):
            most = pairs(Fraction(21, 2) + off)[0]
            self.check_told(("sum up to", DARING, OTHER, BOTH, most), (PRICES, PRICES), off >= 0)
            self.check_told(("sum above", DARING, OTHER, BOTH, most), BEST, off < 0)

    def test_prices_for_both_the_same_count_nothing(self):
        claim, _ = GOOD["sum up to"]
        for value in (ONE, (10 ** 90, 7), HALF):
            for at in range(2):
                rows = [list(row) for row in PRICES]
                rows[at][at] = value
                other = tuple(tuple(row) for row in rows)
                for paper in ((other, PRICES), (PRICES, other), (other, other)):
                    self.check_told(claim, paper, True)
                    self.check_told(claim[:4] + ((10, 1),), paper, False)

    def test_prices_for_both_the_same_are_fractions_from_nil_on(self):
        claim, _ = GOOD["sum up to"]
        for value in [LESS, (-1, 10 ** 90), (0, 2), (2, 4), None, 0, 1, [0, 1], "0", (1, 0), (True, 1), Fraction(0)]:
            for at in range(2):
                rows = [list(row) for row in PRICES]
                rows[at][at] = value
                other = tuple(tuple(row) for row in rows)
                self.check_told(claim, (other, PRICES), False)
                self.check_told(claim, (PRICES, other), False)

    def test_prices_of_another_size(self):
        claim, _ = GOOD["sum up to"]
        three = PRICES + ((NIL, NIL),)
        for wrong in [PRICES[:1], three, tuple(row + (NIL,) for row in PRICES), tuple(row + (NIL,) for row in three), (),
                      ((NIL,),), (NIL, NIL)]:
            self.check_told(claim, (wrong, PRICES), False)
            self.check_told(claim, (PRICES, wrong), False)
            self.check_told(claim, (wrong, wrong), False)
        first, second, weights = ((ONE, ONE, ONE),), ((ONE, TWO, ONE),), ((ONE, HALF, ONE),)
        one, many = ((NIL,),), ((NIL, HALF, NIL), (NIL,) * 3, (NIL, HALF, NIL))
        self.check_told(("sum up to", first, second, weights, HALF), (one, many), True)
        self.check_told(("sum up to", first, second, weights, HALF), (many, one), False)

    def test_wrong_weights(self):
        for wrong in [BOTH[:1], BOTH + BOTH[:1], tuple(row[:1] for row in BOTH), ((ONE, ONE), [ONE, ONE]), ((ONE, (2, 2)),) * 2,
                      ((ONE, 1), (ONE, ONE)), None, ()]:
            self.check_told(("sum up to", DARING, OTHER, wrong, (99, 1)), (PRICES, PRICES), False)
            self.check_told(("sum above", DARING, OTHER, wrong, (-99, 1)), BEST, False)

    def test_claims_that_are_not_so(self):
        self.check_never(("sum up to", DARING, OTHER, BOTH, (10, 1)))
        self.check_never(("sum above", DARING, OTHER, BOTH, (21, 2)))


class LargeTest(CheckerTest):
    def test_large_numbers(self):
        large = 10 ** 390
        tiny = Fraction(1, large)
        field = grid([[1, 0, 1 - tiny], [0, 1, 0]])
        game = told_game([[(1, 0)], [(1 - tiny, -tiny)]])
        self.check_told(("led", game, field), (), True)
        self.check_told(("answered", game, field, (ONE,)), DOWN, True)
        self.check_told(("answered", game, field, (ONE,)), pairs(tiny, 1 - tiny), False)
        self.check_told(("widening", told_game([[(large, 0)]]), grid([[1, 0, 0]]), pairs(tiny), 1000, 1000 * large ** 2), (), True)
        self.assertEqual(against(game, [Fraction(1), Fraction(0)]), [(1, 0)])
        self.assertEqual(excess_rows(game, field[1]), [[0], [-tiny]])


if __name__ == "__main__":
    unittest.main()

"""Points 12 to 16 and steermeans/leading.py."""

import unittest
from fractions import Fraction
from itertools import combinations, permutations

from steermeans.errors import EmptyField
from steermeans.fields import corners
from steermeans.games import tilted, turned
from steermeans.leading import (answer, bar, barring_share, is_kept, is_led, keeping_mix, kept_square, least_widening,
                                weights_beside)
from tests.helper import dot, feasible, grid, number, numbers, pair, pairs, plain, seeded, some_fraction, some_mix
from tests.reckoning import (against, beside, can_be_led, excess_rows, greatest_least, inside, is_mix, is_shown,
                             lifting_share, mean, moved, nearest_pair, over, some_full_field, some_game, spots, square,
                             tilted_rows, told_distance, told_game)

NIL, HALF, ONE, TWO, LESS = (0, 1), (1, 2), (1, 1), (2, 1), (-1, 1)
TICK, CROSS = (((NIL, NIL), (NIL, NIL)), ((ONE, NIL), (ONE, ONE))), (((LESS, TWO),), ((TWO, LESS),))
LEAN = ((LESS, NIL, (-1, 2)), (NIL, ONE, HALF))
TIGHT = ((LESS, NIL, (-1, 2)), (NIL, ONE, (1, 4)))
QUARTER = ((ONE, NIL, NIL), (NIL, ONE, NIL))
EMPTY = ((ONE, NIL, NIL), (LESS, NIL, LESS))
TINY = Fraction(1, 10 ** 60)
SIZES = [(height, width) for height in range(1, 4) for width in range(1, 4)]


def two_tables(one, two):
    """The game whose excesses of the sides of QUARTER are these two tables."""
    return told_game([list(zip(row, other)) for row, other in zip(one, two)])


def ring(*lines):
    """Two tables, tilted to one with these lines (number at 0, number at 1) on its diagonal and -1 beside each.

    Its worth is above 0 exactly where all lines are above 0 and their product is above 1.
    """
    many = len(lines)
    tables = []
    for end in range(2):
        rows = [[Fraction(0)] * many for _ in range(many)]
        for at, line in enumerate(lines):
            rows[at][(at + 1) % many] = Fraction(-1)
            rows[at][at] = Fraction(line[end])
        tables.append(rows)
    return two_tables(*tables)


def box(places):
    """The least field with sides along the axes around some places."""
    xs, ys = [x for x, _ in places], [y for _, y in places]
    return grid([[1, 0, max(xs)], [-1, 0, -min(xs)], [0, 1, max(ys)], [0, -1, -min(ys)]])


class LeadingTest(unittest.TestCase):
    def check_led(self, game, field):
        """Whether a field can be led into: both functions tell the same, and what bars is shown by own sums."""
        told = is_led(game, field)
        found = bar(game, field)
        self.assertIs(told, found is None)
        if found is not None:
            self.assertTrue(is_shown(game, field, *found), (game, field, found))
        return told


class ExamplesTest(LeadingTest):
    def test_the_examples_of_the_document(self):
        self.assertEqual(
            [is_led(TICK, LEAN), is_led(TICK, TIGHT), is_led(CROSS, QUARTER), bar(TICK, LEAN), bar(CROSS, QUARTER)[0],
             is_kept(CROSS, QUARTER[0]), is_kept(CROSS, QUARTER[1])],
            [True, False, False, None, ((1, 1),), True, True])
        self.assertEqual(
            [answer(TICK, LEAN, (NIL, ONE)), answer(TICK, TIGHT, (NIL, ONE)), weights_beside(TICK, LEAN, (NIL, ONE)),
             kept_square(TICK, TIGHT, (NIL, ONE)), kept_square(CROSS, QUARTER, (ONE,)),
             kept_square(TICK, LEAN, (HALF, HALF))],
            [((1, 2), (1, 2)), None, None, (1, 32), (1, 2), (0, 1)])
        self.assertEqual(
            [least_widening(CROSS, QUARTER, (ONE, ONE), 4), least_widening(TICK, LEAN, (ONE, ONE), 4),
             barring_share(TICK, LEAN[0], LEAN[1]), barring_share(CROSS, QUARTER[0], QUARTER[1]) is None],
            [2, 0, None, False])
        self.assertEqual([is_led(turned(TICK), ((NIL, ONE, NIL),)), is_led(turned(TICK), ((NIL, LESS, (-1, 2)),))],
                         [True, False])
        self.assertRaises(EmptyField, is_led, TICK, EMPTY)

    def test_parameters_by_name(self):
        self.assertEqual(
            [is_led(field=LEAN, game=TICK), bar(field=LEAN, game=TICK), answer(mix=(NIL, ONE), field=LEAN, game=TICK),
             weights_beside(mix=(NIL, ONE), field=LEAN, game=TICK),
             kept_square(mix=(NIL, ONE), field=TIGHT, game=TICK), is_kept(side=QUARTER[0], game=CROSS),
             keeping_mix(side=QUARTER[0], game=CROSS), barring_share(two=LEAN[1], one=LEAN[0], game=TICK),
             least_widening(many=4, widths=(ONE, ONE), field=QUARTER, game=CROSS)],
            [True, None, ((1, 2), (1, 2)), None, (1, 32), True, keeping_mix(CROSS, QUARTER[0]), None, 2])

    def test_equal_calls_have_equal_results_and_change_nothing(self):
        source = seeded(1)
        for _ in range(20):
            game, field = some_game(source), some_full_field(source)
            again = (tuple(tuple(((a, b), (c, d)) for (a, b), (c, d) in row) for row in game),
                     tuple(((a, b), (c, d), (e, f)) for (a, b), (c, d), (e, f) in field))
            self.assertEqual(bar(game, field), bar(*again))
            self.assertEqual((game, field), again)


class LedTest(LeadingTest):
    def test_as_the_polynomials_tell(self):
        source = seeded(2)
        seen = {True: 0, False: 0}
        for at in range(135):
            game = some_game(source, *SIZES[at % 9])
            field = some_full_field(source, 1 + at % 5)
            told = self.check_led(game, field)
            self.assertIs(told, can_be_led(game, field), (game, field))
            seen[told] += 1
        self.assertGreater(min(seen.values()), 30)

    def test_one_column_is_led_if_some_mix_is_in_the_field(self):
        source = seeded(3)
        seen = set()
        for at in range(300):
            game = some_game(source, 1 + at % 3, 1)
            field = some_full_field(source)
            # with a third row, perhaps the first one again, two parts of the mix may be chosen
            places = ([row[0] for row in spots(game)] * 3)[:3]
            rows = [(-1, 0, 0, False), (0, -1, 0, False), (1, 1, 1, False)]
            for side in field:
                one, two, three = [over(side, place) for place in places]
                rows.append((one - three, two - three, -three, False))
            told = feasible([tuple(Fraction(share) for share in row[:3]) + (False,) for row in rows])
            self.assertIs(self.check_led(game, field), told, (game, field))
            seen.add((len(game), told))
        self.assertEqual(len(seen), 6)

    def test_one_row_is_led_if_all_columns_are_in_the_field(self):
        source = seeded(4)
        seen = set()
        for at in range(300):
            game = some_game(source, 1, 1 + at % 3)
            field = some_full_field(source, 1 + at % 3)
            told = all(inside(field, place) for place in spots(game)[0])
            self.assertIs(self.check_led(game, field), told)
            seen.add((len(game[0]), told))
        self.assertEqual(len(seen), 6)

    def test_fields_around_all_worths_of_one_mix_of_rows(self):
        source = seeded(5)
        for at in range(90):
            game = some_game(source, *SIZES[at % 9], size=9, below=4)
            worths = against(game, some_mix(source, len(game)))
            field = list(box(worths))
            a, b = some_fraction(source) or 1, some_fraction(source)
            field.append(pairs(a, b, max(a * x + b * y for x, y in worths)))
            self.assertIs(self.check_led(game, tuple(field)), True)
            for side in field:
                self.assertIs(self.check_led(game, (side,)), True)
                self.assertIs(is_kept(game, side), True)
            for one, two in combinations(field, 2):
                self.assertIsNone(barring_share(game, one, two))

    def test_fields_beyond_a_half_plane_in_which_no_row_lies_beside_a_mix_of_columns(self):
        source = seeded(6)
        for at in range(90):
            game = some_game(source, *SIZES[at % 9], size=9, below=4)
            rows = beside(game, some_mix(source, len(game[0])))
            a, b = some_fraction(source) or 1, some_fraction(source)
            for off in (Fraction(1, 3), TINY):
                field = pairs(a, b, min(a * x + b * y for x, y in rows) - off), *some_full_field(source, 2)[:1]
                if a * number(field[1][1]) != b * number(field[1][0]):
                    self.assertIs(self.check_led(game, field), False)
                    self.assertIs(self.check_led(game, field[::-1]), False)
                self.assertIs(self.check_led(game, field[:1]), False)

    def test_each_side_alone_is_kept_but_the_field_is_barred(self):
        source = seeded(7)
        sizes = set()
        while len(sizes) < 5:
            game = some_game(source)
            field = some_full_field(source, 2)
            if all(is_kept(game, side) for side in field) and not self.check_led(game, field):
                share = number(barring_share(game, *field))
                self.assertTrue(0 < share < 1)
                sizes.add((len(game), len(game[0])))
        self.assertNotIn(1, [height for height, _ in sizes])
        self.assertIs(self.check_led(CROSS, QUARTER), False)

    def test_fields_that_touch(self):
        for height, width in SIZES:
            source = seeded(8 + height * 10 + width)
            for _ in range(6):
                game = some_game(source, height, width)
                a, b = some_fraction(source) or 1, some_fraction(source)
                most = greatest_least(excess_rows(game, pairs(a, b, 0)))
                for off, told in [(0, True), (TINY, True), (-TINY, False)]:
                    side = pairs(a, b, most + off)
                    self.assertIs(self.check_led(game, (side,)), told)
                    self.assertIs(self.check_led(game, (side, pairs(-a, -b, 10 ** 6))), told)
                    self.assertIs(self.check_led(game, (side, pairs(b, -a, 10 ** 6))), told)

    def test_two_rows_that_just_meet_a_corner(self):
        for x, y in [(0, 0), (Fraction(3, 7), Fraction(-2, 9))]:
            for p in (Fraction(1, 2), Fraction(10 ** 40 + 1, 3 * 10 ** 40)):
                # the stretch between both rows goes through the corner (x, y)
                rows = [[(x - 1 + p, y + 3 * (1 - p))], [(x + p, y - 3 * p)]]
                game = told_game(rows)
                self.assertIs(self.check_led(game, grid([[1, 0, x], [0, 1, y]])), True)
                self.assertIs(self.check_led(game, grid([[1, 0, x], [0, 1, y - TINY]])), False)
                self.assertIs(self.check_led(game, grid([[1, 0, x - TINY], [0, 1, y]])), False)

    def test_fields_of_every_kind(self):
        games = [TICK, CROSS, turned(TICK), told_game([[(0, 0), (0, 0)], [(1, 0), (1, 1)], [(0, 1), (1, 1)]]),
                 told_game([[(0, 0), (2, 2)], [(2, 2), (0, 0)]])]
        kinds = {
            "one place": [[1, 0, 1], [-1, 0, -1], [0, 1, 1], [0, -1, -1]],
            "a stretch": [[0, 1, 0], [0, -1, 0], [1, 0, 1], [-1, 0, 0]],
            "a strip": [[1, 1, 1], [-1, -1, 0]],
            "a line": [[1, -1, 0], [-1, 1, 0]],
            "half planes": [[1, 2, 1]],
            "doubled sides": [[-1, 0, -1], [-2, 0, -2], [-1, 0, -1], [0, -3, -3]],
            "several sides through one place": [[-1, 0, -1], [0, -1, -1], [-1, -1, -2], [-2, -1, -3], [-1, -3, -4]],
            "five sides": [[1, 0, 2], [0, 1, 2], [-1, 0, -1], [0, -1, 0], [-1, -1, Fraction(-3, 2)]],
        }
        source = seeded(9)
        seen = {}
        for name, rows in kinds.items():
            for off in (0, Fraction(1, 2), Fraction(-1, 2)):
                sides = grid([[a, b, c + off * (a + 2 * b)] for a, b, c in rows])
                for game in games + [some_game(source, 3, 2), some_game(source, 3, 3)]:
                    told = self.check_led(game, sides)
                    self.assertIs(told, can_be_led(game, sides), (name, game))
                    seen.setdefault(name, set()).add(told)
        self.assertEqual(seen, {name: {True, False} for name in kinds})

    def test_sides_in_another_order_doubled_or_multiplied_tell_the_same(self):
        source = seeded(10)
        seen = set()
        for _ in range(40):
            game, field = some_game(source), some_full_field(source, 3)
            told = self.check_led(game, field)
            seen.add(told)
            for order in permutations(field):
                self.assertIs(self.check_led(game, order), told)
            self.assertIs(self.check_led(game, field + field[:2]), told)
            for share in (Fraction(7, 3), Fraction(1, 10 ** 50), Fraction(10 ** 50)):
                scaled = tuple(pair(share * part) for part in numbers(field[1]))
                self.assertIs(self.check_led(game, (field[0], scaled, field[2])), told)
        self.assertEqual(seen, {True, False})

    def test_what_the_turned_game_can_be_led_into(self):
        source = seeded(11)
        for _ in range(40):
            game, field = some_game(source), some_full_field(source, 2)
            rows = spots(game)
            other = told_game([[row[j] for row in rows] for j in range(len(rows[0]))])
            self.assertIs(is_led(turned(game), field), is_led(other, field))
        self.assertIs(is_led(turned(TICK), ((NIL, LESS, NIL), (NIL, ONE, NIL))), True)

    def test_large_numbers(self):
        source = seeded(12)
        for at in range(6):
            game = told_game([[(Fraction(source.randint(-10 ** 150, 10 ** 150), source.randint(1, 10 ** 150)),
                                Fraction(source.randint(-10 ** 150, 10 ** 150), source.randint(1, 10 ** 150)))
                               for _ in range(1 + at % 3)] for _ in range(3)])
            worths = against(game, some_mix(source, 3))
            field = box(worths)
            self.assertIs(self.check_led(game, field), True)
            if at % 3 == 0:
                x = Fraction(*field[0][2])
                self.assertIs(self.check_led(game, (pairs(1, 0, min(p[0] for row in spots(game) for p in row) - TINY),)),
                              False)
                self.assertIs(inside(field, worths[0]), True)
                self.assertGreaterEqual(x, worths[0][0])
        large = Fraction(10 ** 350)
        for share in (large, 1 / large):
            game = told_game([[(-share, 2 * share)], [(2 * share, -share)]])
            self.assertIs(self.check_led(game, QUARTER), False)
            self.assertIs(self.check_led(game, pairs_field(share / 2, share / 2)), True)
            self.assertIs(self.check_led(game, pairs_field(share / 2, share / 2 - TINY * share)), False)

    def test_empty_fields(self):
        for function in (is_led, bar):
            self.assertRaises(EmptyField, function, TICK, EMPTY)
        for function in (answer, weights_beside, kept_square):
            self.assertRaises(EmptyField, function, TICK, EMPTY, (HALF, HALF))
        self.assertRaises(EmptyField, least_widening, TICK, EMPTY, (ONE, ONE), 1)


def pairs_field(x, y):
    """The field of all places up to x and up to y."""
    return grid([[1, 0, x], [0, 1, y]])


class BarringShareTest(LeadingTest):
    def check_share(self, game, one, two):
        """The told share is one from 0 to 1 at which the worth is above 0; None."""
        told = barring_share(game, one, two)
        if told is None:
            return None
        share = number(told)
        self.assertTrue(0 <= share <= 1)
        self.assertGreater(greatest_least(plain(tilted(game, one, two, told))), 0)
        return share

    def test_as_the_polynomials_tell(self):
        source = seeded(20)
        seen = {True: 0, False: 0}
        for at in range(108):
            game = some_game(source, *SIZES[at % 9], below=1)
            one, two = [pairs(some_fraction(source, 2, 1) or 1, some_fraction(source, 2, 2), some_fraction(source, 3, 1))
                        for _ in range(2)]
            told = lifting_share(excess_rows(game, one), excess_rows(game, two)) is None
            self.assertIs(self.check_share(game, one, two) is None, told, (game, one, two))
            self.assertIs(self.check_share(game, two, one) is None, told)
            seen[told] += 1
        self.assertGreater(min(seen.values()), 20)

    def test_narrow_stretches_whose_ends_are_no_fractions(self):
        for figures in (1, 5, 30, 120):
            tiny = Fraction(1, 10 ** figures)
            for off in (Fraction(0), Fraction(1, 7) + tiny / 3, Fraction(-1, 11) - tiny):
                # the product is (1 + share) 4 (t + off) (1 - t - off), greatest at 1 / 2 - off
                for share, told in [(tiny ** 2, False), (Fraction(0), True), (-tiny ** 2, True)]:
                    game = ring((2 * off, 2 * (1 + off)), (2 * (1 + share) * (1 - off), -2 * (1 + share) * off))
                    found = self.check_share(game, *QUARTER)
                    self.assertIs(found is None, told)
                    self.assertIs(self.check_led(game, QUARTER), told)
                    if found is not None:
                        self.assertLess((found + off - Fraction(1, 2)) ** 2, tiny ** 2)

    def test_narrow_stretches_between_roots_of_degree_three(self):
        for figures in (1, 5, 30, 100):
            tiny = Fraction(1, 10 ** figures)
            for off in (Fraction(0), Fraction(1, 7) + tiny / 3):
                # the product is (1 + share) 27 / 4 (t + off)^2 (1 - t - off), greatest at 2 / 3 - off
                for share, told in [(tiny ** 2, False), (Fraction(0), True), (-tiny ** 2, True)]:
                    last = Fraction(27, 4) * (1 + share)
                    game = ring((off, 1 + off), (off, 1 + off), (last * (1 - off), -last * off))
                    found = self.check_share(game, *QUARTER)
                    self.assertIs(found is None, told)
                    self.assertIs(self.check_led(game, QUARTER), told)
                    if found is not None:
                        self.assertLess((found + off - Fraction(2, 3)) ** 2, tiny ** 2)

    def test_stretches_between_fractions_without_a_plain_one(self):
        low = Fraction(10 ** 80 + 7, 3 * 10 ** 80)
        for many in (1, 2, 3):
            # two rows: t - low and high - t, alike in all columns
            for off, told in [(TINY ** 3, False), (Fraction(0), True), (-TINY ** 3, True)]:
                high = low + off
                one = [[-low] * many, [high] * many]
                two = [[1 - low] * many, [high - 1] * many]
                found = self.check_share(two_tables(one, two), *QUARTER)
                self.assertIs(found is None, told)
                if found is not None:
                    self.assertTrue(low < found < high)

    def test_two_stretches_apart(self):
        seen = set()
        # two columns, each with two rows: the one is above 0 from a to b alone, the other one from c to d alone
        for a, b, c, d in [(20, 30, 70, 80), (20, 20, 70, 80), (20, 30, 70, 70), (20, 20, 70, 70), (20, 19, 70, 71),
                           (30, 20, 80, 70), (20, 21, 21, 22), (20, 20, 21, 21)]:
            a, b, c, d = [Fraction(told, 97) for told in (a, b, c, d)]
            one, two = [[-a, -99 * c], [b, 99 * d]], [[1 - a, 99 - 99 * c], [b - 1, 99 * d - 99]]
            told = lifting_share(one, two) is None
            self.assertIs(self.check_share(two_tables(one, two), *QUARTER) is None, told)
            seen.add(told)
        self.assertEqual(seen, {True, False})
        self.assertIsNone(self.check_share(ring((1, 1), (1, 1)), *QUARTER))

    def test_at_the_ends(self):
        for near in (TINY, Fraction(1, 3)):
            # above 0 up to near alone, and from 1 - near on alone
            one, two = [[near]], [[near - 1]]
            found = self.check_share(two_tables(one, two), *QUARTER)
            self.assertTrue(0 <= found < near)
            found = self.check_share(two_tables(two, one), *QUARTER)
            self.assertTrue(1 - near < found <= 1)
        for rows in ([[Fraction(0)]], [[Fraction(0), Fraction(-1)], [Fraction(-1), Fraction(0)]]):
            less = [[told - 1 for told in row] for row in rows]
            self.assertIsNone(self.check_share(two_tables(rows, less), *QUARTER))
            self.assertIsNone(self.check_share(two_tables(less, rows), *QUARTER))
            self.assertIsNone(self.check_share(two_tables(rows, rows), *QUARTER))

    def test_opposite_sides_and_sides_without_a_common_place(self):
        strip = [pairs(1, 0, 1), pairs(-1, 0, 0)]
        for game, told in [(told_game([[(0, 5)]]), True), (told_game([[(2, 5)]]), False), (told_game([[(-1, 5)]]), False),
                           (told_game([[(2, 5)], [(-1, 0)]]), True), (told_game([[(2, 5), (-1, 0)]]), False)]:
            self.assertIs(self.check_share(game, *strip) is None, told)
            self.assertIs(self.check_led(game, tuple(strip)), told)
        apart = [pairs(1, 0, 0), pairs(-1, 0, -1)]
        for game in (told_game([[(0, 5)]]), told_game([[(2, 5)], [(-1, 0)]]), TICK, CROSS):
            self.assertIsNotNone(self.check_share(game, *apart))
        parallel = [pairs(1, 0, 0), pairs(2, 0, -1)]
        self.assertIsNone(self.check_share(told_game([[(-1, 0)]]), *parallel))
        self.assertIsNotNone(self.check_share(told_game([[(Fraction(-1, 3), 0)]]), *parallel))

    def test_one_side_twice(self):
        for c, told in [(Fraction(1, 2), True), (Fraction(1, 2) - TINY, False)]:
            side = pairs(1, 1, c)
            game = told_game([[(0, 0), (1, 0)], [(0, 1), (0, 0)]])
            self.assertIs(self.check_share(game, side, side) is None, told)
            self.assertIs(is_kept(game, side), told)

    def test_parts_whose_determinants_are_0_for_all_shares(self):
        for one, two, told in [([[0, 0], [-1, 1]], [[1, -1], [0, 0]], True),
                               ([[0, 0], [0, 0]], [[0, 0], [0, 0]], True),
                               ([[1, 1], [-1, -1]], [[-1, -1], [1, 1]], True),
                               ([[2, 2], [-1, -1]], [[-1, -1], [2, 2]], False),
                               ([[1, -1, 0], [-1, 1, 0], [0, 0, 0]], [[0, 1, -1], [0, -1, 1], [0, 0, 0]], True)]:
            game = told_game([list(zip(row, other)) for row, other in zip(one, two)])
            self.assertIs(self.check_share(game, *QUARTER) is None, told)
            self.assertIs(can_be_led(game, QUARTER), told)


class AnswerTest(LeadingTest):
    def check_answer(self, game, field, mix):
        """Just one of both is told, and it is right; the kept distance is that of a pair that a line keeps apart."""
        found = answer(game, field, pairs(*mix))
        weights = weights_beside(game, field, pairs(*mix))
        kept = number(kept_square(game, field, pairs(*mix)))
        self.assertIs(found is None, weights is not None)
        places = beside(game, mix)
        if found is not None:
            self.assertTrue(is_mix(found, len(game)))
            self.assertTrue(inside(field, mean(numbers(found), places)))
            self.assertEqual(kept, 0)
            return None
        self.assertTrue(is_shown(game, field, pairs(*mix), weights))
        told = nearest_pair(field, places, [tuple(numbers(corner)) for corner in corners(field)])
        self.assertEqual(kept, square(*told))
        return told

    def test_any_mixes(self):
        source = seeded(30)
        seen = set()
        for at in range(250):
            game, field = some_game(source, *SIZES[at % 9]), some_full_field(source, 1 + at % 5)
            mix = some_mix(source, len(game[0]))
            told = self.check_answer(game, field, mix)
            if told is None:
                seen.add("answered")
            else:
                self.assertIs(is_led(game, field), False)
                kind = "row" if told[0] in beside(game, mix) else "between rows"
                seen.add((kind, "corner" if pairs(*told[1]) in corners(field) else "side"))
        # a place between two rows has its nearest place on a side only where this is along both
        self.assertLessEqual({"answered", ("row", "corner"), ("row", "side"), ("between rows", "corner")}, seen)

    def test_the_mixes_that_bar_have_no_answer(self):
        source = seeded(31)
        many = 0
        while many < 60:
            game, field = some_game(source), some_full_field(source)
            found = bar(game, field)
            if found is not None:
                self.assertIsNotNone(self.check_answer(game, field, numbers(found[0])))
                many += 1

    def test_fields_that_can_be_led_into_answer_all_mixes(self):
        source = seeded(32)
        many = 0
        while many < 40:
            game, field = some_game(source), some_full_field(source)
            if is_led(game, field):
                for _ in range(3):
                    self.assertIsNone(self.check_answer(game, field, some_mix(source, len(game[0]))))
                many += 1

    def test_named_distances(self):
        rows = told_game([[(0, 0)], [(4, 0)], [(0, 4)]])
        cases = [
            (grid([[1, 0, -3]]), 9, "a row and a side"),
            (grid([[1, 0, -3], [0, 1, -4]]), 25, "a row and a corner"),
            (grid([[-1, 0, -3], [0, -1, -3]]), 2, "a place between two rows and a corner"),
            (grid([[-1, -1, -6]]), 2, "a stretch between two rows along a side"),
            (grid([[1, 0, -1], [-1, 0, 1], [0, 1, 1], [0, -1, -1]]), 1, "a field of one place beside two rows"),
            (grid([[0, 1, -1], [0, -1, 2], [1, 0, 9], [-1, 0, -2]]), 1, "a field below a place between two rows"),
            (grid([[1, 0, 1], [0, 1, 1], [-1, 0, -1], [0, -1, -1]]), 0, "one place among the rows"),
            (grid([[1, 1, 0]]), 0, "a side through one row"),
            (grid([[-1, -1, -4]]), 0, "a side along two rows"),
        ]
        for field, told, name in cases:
            for order in permutations(range(3)):
                game = tuple(rows[at] for at in order)
                self.assertEqual(kept_square(game, field, (ONE,)), pair(told), name)
                self.check_answer(game, field, [Fraction(1)])

    def test_rows_alike_and_rows_on_one_line(self):
        for rows in ([[(1, 1)], [(1, 1)]], [[(1, 1)], [(1, 1)], [(1, 1)]], [[(0, 0)], [(1, 1)], [(3, 3)]],
                     [[(0, 0)], [(1, 1)], [(0, 0)]]):
            for field in (grid([[1, 0, -1]]), grid([[1, 0, 3], [-1, 0, -2], [0, 1, 0]]), grid([[1, 1, 2], [-1, -1, -2]]),
                          grid([[1, -1, 0], [-1, 1, 0], [1, 0, -5]])):
                self.check_answer(told_game(rows), field, [Fraction(1)])

    def test_just_answered_and_just_not(self):
        for off, told in [(0, True), (TINY, True), (-TINY, False)]:
            field = grid([[-1, 0, -Fraction(1, 2)], [0, 1, Fraction(1, 2) + off]])
            self.assertIs(answer(TICK, field, (NIL, ONE)) is not None, told)
            self.assertIs(weights_beside(TICK, field, (NIL, ONE)) is None, told)
            self.assertEqual(number(kept_square(TICK, field, (NIL, ONE))), TINY ** 2 / 2 if off < 0 else 0)

    def test_large_numbers(self):
        large = Fraction(10 ** 200 + 1, 3 ** 150)
        game = told_game([[(large, 1 / large), (-large, 7)], [(1, large), (0, 0)], [(5, -large), (large, large)]])
        self.check_answer(game, grid([[1, 0, -large], [1 / large, large, 1 / large]]), [Fraction(1, 3), Fraction(2, 3)])
        self.check_answer(game, grid([[large, 1, large ** 2]]), [large / (large + 1), 1 / (large + 1)])


class KeptTest(LeadingTest):
    def test_sides_just_at_the_worth_below_and_above(self):
        source = seeded(40)
        for at in range(90):
            game = some_game(source, *SIZES[at % 9])
            a, b = [(0, 1), (1, 0), (some_fraction(source) or 1, some_fraction(source))][at % 3]
            most = greatest_least(excess_rows(game, pairs(a, b, 0)))
            for off, told in [(0, True), (-TINY, False), (TINY, True), (5, True), (-5, False)]:
                side = pairs(a, b, most + off)
                mix = keeping_mix(game, side)
                self.assertIs(is_kept(game, side), told)
                self.assertIs(mix is not None, told)
                self.assertIs(is_led(game, (side,)), told)
                if mix is not None:
                    self.assertTrue(is_mix(mix, len(game)))
                    self.assertTrue(all(over(side, place) <= 0 for place in against(game, numbers(mix))))

    def test_a_half_plane_is_widened_by_the_worth_of_its_excess(self):
        source = seeded(41)
        for at in range(60):
            game = some_game(source, *SIZES[at % 9])
            side = pairs(some_fraction(source) or 1, some_fraction(source), some_fraction(source))
            width, many = abs(some_fraction(source)) or Fraction(1), source.choice([1, 3, 1000])
            most = greatest_least(excess_rows(game, side))
            told = max(0, -(-most * many / width // 1))
            self.assertEqual(least_widening(game, (side,), (pair(width),), many), told)


class WideningTest(LeadingTest):
    def check_widening(self, game, field, widths, many, reckoned=False):
        """The told number is led, the one before it is barred."""
        told = least_widening(game, field, widths, many)
        self.assertIs(type(told), int)
        self.assertGreaterEqual(told, 0)
        self.assertIs(self.check_led(game, moved(field, widths, Fraction(told, many))), True)
        if told > 0:
            self.assertIs(self.check_led(game, moved(field, widths, Fraction(told - 1, many))), False)
        if reckoned:
            self.assertIs(can_be_led(game, moved(field, widths, Fraction(told, many))), True)
        return told

    def test_any_widths(self):
        source = seeded(50)
        seen = set()
        for at in range(120):
            game, field = some_game(source, *SIZES[at % 9]), some_full_field(source, 1 + at % 5)
            widths = pairs(*[Fraction(source.randint(1, 5), source.randint(1, 4)) for _ in field])
            many = source.choice([1, 2, 7, 100, 1000])
            told = self.check_widening(game, field, widths, many, reckoned=at % 16 == 0)
            self.assertIs(told == 0, is_led(game, field))
            seen.add(min(told, 2))
        self.assertEqual(seen, {0, 1, 2})

    def test_the_order_of_sides_does_not_count(self):
        source = seeded(51)
        for _ in range(20):
            game, field = some_game(source), some_full_field(source, 3)
            widths = pairs(1, Fraction(1, 3), 2)
            told = least_widening(game, field, widths, 60)
            for order in permutations(range(3)):
                self.assertEqual(least_widening(game, tuple(field[at] for at in order),
                                                tuple(widths[at] for at in order), 60), told)
            wider = tuple(pair(number(width) * 7) for width in widths)
            self.assertEqual(least_widening(game, field, wider, 60 * 7), told)

    def test_more_parts_tell_it_more_nearly(self):
        source = seeded(52)
        for _ in range(30):
            game, field = some_game(source), some_full_field(source)
            widths = (ONE,) * len(field)
            coarse, fine = [least_widening(game, field, widths, many) for many in (1, 1000)]
            self.assertEqual(coarse, -(-fine // 1000))

    def test_0_for_what_can_be_led_into(self):
        self.assertEqual([least_widening(TICK, LEAN, (ONE, (1, 10 ** 99)), many) for many in (1, 999, 1000)], [0, 0, 0])

    def test_just_at_a_whole_number(self):
        # both rows of CROSS are at 1 / 2 with the even mix: so 1 / 2 is the widening
        for many, told in [(1, 1), (2, 1), (3, 2), (4, 2), (999, 500), (1000, 500)]:
            self.assertEqual(least_widening(CROSS, QUARTER, (ONE, ONE), many), told)
        for off, told in [(0, 500), (TINY, 501), (-TINY, 500)]:
            field = pairs_field(0, -off)
            self.assertEqual(least_widening(CROSS, field, (ONE, ONE), 1000), told)

    def test_widths_of_very_unlike_size(self):
        large = 10 ** 120
        for one, two in [(large, 1), (1, large), (large, Fraction(1, large)), (Fraction(1, large), Fraction(1, large))]:
            for many in (1, 1000):
                self.check_widening(CROSS, QUARTER, pairs(one, two), many)
                self.check_widening(TICK, TIGHT, pairs(one, two), many)
                self.check_widening(ring((1, 2), (2, 1)), QUARTER, pairs(one, two), many)
        # both have to be moved by 1 / 2
        self.assertEqual(least_widening(CROSS, QUARTER, pairs(Fraction(1, large), Fraction(1, large)), 1), large // 2)

    def test_large_numbers(self):
        source = seeded(53)
        for at in range(8):
            game = told_game([[(source.randint(-10 ** 100, 10 ** 100), source.randint(-10 ** 100, 10 ** 100))
                               for _ in range(1 + at % 3)] for _ in range(2 + at % 2)])
            field = some_full_field(source, 1 + at % 4)
            told = self.check_widening(game, field, (ONE,) * len(field), source.choice([1, 1000]))
            self.assertIs(told == 0, is_led(game, field))

    def test_widenings_that_are_no_fractions(self):
        for size in (1, 10 ** 10, 10 ** 60):
            # two rows and columns by turns, and three rows: greatest worths inside, and where two parts meet
            game = ring((0, 3 * size), (2 * size, 0), (size, 5 * size))
            self.check_widening(game, QUARTER, pairs(1, 1), 1000)
            game = ring((size, 3 * size), (2 * size, 0))
            self.check_widening(game, QUARTER, pairs(1, Fraction(2, 3)), 1000)
            rows = told_game([[(0, 3 * size), (size, -size)], [(2 * size, 0), (-size, size)], [(size, size), (0, 0)]])
            self.check_widening(rows, QUARTER, pairs(2, 3), 1000, reckoned=size < 2)

    def test_greater_widenings_are_led_too(self):
        source = seeded(54)
        for _ in range(20):
            game, field = some_game(source), some_full_field(source)
            widths = pairs(*[Fraction(source.randint(1, 9), 4) for _ in field])
            told = least_widening(game, field, widths, 10)
            for more in (1, 7, 10 ** 30):
                self.assertIs(is_led(game, moved(field, widths, Fraction(told + more, 10))), True)
                self.assertEqual(least_widening(game, moved(field, widths, Fraction(told + more, 10)), widths, 10), 0)
            if told > 3:
                self.assertEqual(least_widening(game, moved(field, widths, Fraction(3, 10)), widths, 10), told - 3)


class TiltedRowsTest(unittest.TestCase):
    def test_the_reckoning_of_the_tests(self):
        rows = tilted_rows([[Fraction(1)]], [[Fraction(5)]], Fraction(1, 4))
        self.assertEqual((rows, greatest_least(rows)), ([[2]], 2))
        self.assertEqual(greatest_least([[Fraction(0), Fraction(3)], [Fraction(2), Fraction(1)]]), Fraction(3, 2))
        self.assertEqual(dot([1, 2], [3, 4]), 11)
        self.assertEqual(told_distance(QUARTER, (Fraction(3), Fraction(4))), 25)


if __name__ == "__main__":
    unittest.main()

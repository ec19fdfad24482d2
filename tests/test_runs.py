"""Points 12, 17 and 18 and steermeans/runs.py."""

import unittest
from fractions import Fraction

from steermeans.errors import EmptyField, InvalidPlays, NotLed
from steermeans.fields import corners
from steermeans.leading import bar, is_led
from steermeans.runs import first_unguided, guiding_mix, is_guiding, mean_of, reach_sum, round_bound, steered
from tests.helper import grid, number, numbers, pair, pairs, seeded, some_fraction, some_mix
from tests.reckoning import (against, beside, facing, greatest_least, guides, inside, is_mix, mean, means, nearest_of,
                             nearest_pair, played, some_full_field, some_game, some_plays, spots, square, told_distance,
                             told_game)

NIL, HALF, ONE, TWO, LESS = (0, 1), (1, 2), (1, 1), (2, 1), (-1, 1)
TICK, CROSS = (((NIL, NIL), (NIL, NIL)), ((ONE, NIL), (ONE, ONE))), (((LESS, TWO),), ((TWO, LESS),))
LEAN = ((LESS, NIL, (-1, 2)), (NIL, ONE, HALF))
QUARTER = ((ONE, NIL, NIL), (NIL, ONE, NIL))
EMPTY = ((ONE, NIL, NIL), (LESS, NIL, LESS))
UP, DOWN = (ONE, NIL), (NIL, ONE)
TINY = Fraction(1, 10 ** 60)
SIZES = [(height, width) for height in range(1, 4) for width in range(1, 4)]


def led_games(seed, many):
    """Games and fields that are not empty and can be led into, not all of them around a whole game."""
    source = seeded(seed)
    found = []
    while len(found) < many:
        game, field = some_game(source, *SIZES[len(found) % 9]), some_full_field(source)
        if is_led(game, field):
            found.append((game, field))
    return found


def barred_games(seed, many):
    """Games and fields that are not empty and barred."""
    source = seeded(seed)
    found = []
    while len(found) < many:
        game, field = some_game(source, *SIZES[len(found) % 9]), some_full_field(source)
        if not is_led(game, field):
            found.append((game, field))
    return found


def some_columns(source, game, many):
    return tuple(source.randrange(len(game[0])) for _ in range(many))


class ExamplesTest(unittest.TestCase):
    def test_the_examples_of_the_document(self):
        self.assertEqual(
            [mean_of(TICK, ((UP, 0), (DOWN, 1))), is_guiding(TICK, LEAN, (NIL, NIL), (HALF, HALF)),
             is_guiding(TICK, LEAN, (NIL, NIL), UP), is_guiding(TICK, LEAN, (ONE, NIL), UP),
             guiding_mix(CROSS, QUARTER, (ONE, ONE))],
            [((1, 2), (1, 2)), True, False, True, None])
        self.assertEqual(
            [first_unguided(TICK, LEAN, ((UP, 0), (UP, 1))), first_unguided(TICK, LEAN, ((UP, 0), (DOWN, 1))),
             reach_sum(TICK, LEAN, ((UP, 0), (DOWN, 1))), round_bound(TICK, LEAN),
             [column for mix, column in steered(TICK, LEAN, (0, 1, 1))]],
            [1, None, (3, 2), (9, 2), [0, 1, 1]])
        self.assertRaises(NotLed, steered, CROSS, QUARTER, (0, 0))

    def test_parameters_by_name(self):
        plays = ((UP, 0), (DOWN, 1))
        self.assertEqual(
            [mean_of(plays=plays, game=TICK), is_guiding(mix=UP, place=(NIL, NIL), field=LEAN, game=TICK),
             guiding_mix(place=(ONE, ONE), field=QUARTER, game=CROSS), first_unguided(plays=plays, field=LEAN, game=TICK),
             reach_sum(plays=plays, field=LEAN, game=TICK), round_bound(field=LEAN, game=TICK),
             steered(columns=(0, 1), field=LEAN, game=TICK)],
            [((1, 2), (1, 2)), False, None, None, (3, 2), (9, 2), steered(TICK, LEAN, (0, 1))])

    def test_equal_calls_have_equal_results_and_change_nothing(self):
        for game, field in led_games(1, 10):
            again = (tuple(tuple(((a, b), (c, d)) for (a, b), (c, d) in row) for row in game),
                     tuple(((a, b), (c, d), (e, f)) for (a, b), (c, d), (e, f) in field))
            self.assertEqual(steered(game, field, (0, 0, 0)), steered(*again, (0, 0, 0)))
            self.assertEqual(guiding_mix(game, field, (TWO, LESS)), guiding_mix(*again, (TWO, LESS)))
            self.assertEqual((game, field), again)


class MeanTest(unittest.TestCase):
    def test_one_to_forty_rounds(self):
        source = seeded(2)
        for many in range(1, 41):
            game = some_game(source, *SIZES[many % 9])
            plays = some_plays(source, game, many)
            self.assertEqual(mean_of(game, plays), pairs(*means(played(game, plays))[-1]))

    def test_one_round_is_its_worth(self):
        self.assertEqual(mean_of(CROSS, ((((1, 3), (2, 3)), 0),)), (ONE, NIL))
        self.assertEqual(mean_of(TICK, ((UP, 1),) * 40), (NIL, NIL))

    def test_no_round(self):
        with self.assertRaises(InvalidPlays) as caught:
            mean_of(TICK, ())
        self.assertIsNone(caught.exception.index)

    def test_large_numbers(self):
        large = Fraction(10 ** 300, 7 ** 300)
        game = told_game([[(large, 1 / large)], [(-large, 0)]])
        mix = pairs(large / (large + 1), 1 / (large + 1))
        self.assertEqual(mean_of(game, ((mix, 0), (UP, 0))),
                         pairs((large * (large - 1) / (large + 1) + large) / 2, (1 / (large + 1) + 1 / large) / 2))


class GuidingTest(unittest.TestCase):
    def check_guiding(self, game, field, place):
        """What is told, a mix that guides by own sums or None."""
        told = guiding_mix(game, field, pairs(*place))
        if told is not None:
            self.assertTrue(is_mix(told, len(game)))
            self.assertTrue(guides(game, field, place, told))
            self.assertIs(is_guiding(game, field, pairs(*place), told), True)
        return told

    def places(self, source):
        return [(some_fraction(source, 5, 3), some_fraction(source, 5, 3)),
                (some_fraction(source, 1000), some_fraction(source, 1000)),
                (Fraction(10 ** 30), Fraction(-10 ** 31, 3))]

    def test_some_mix_guides_at_each_place_if_the_field_can_be_led_into(self):
        source = seeded(3)
        for game, field in led_games(4, 60):
            for place in self.places(source) + [place for row in spots(game) for place in row]:
                self.assertIsNotNone(self.check_guiding(game, field, place))

    def test_at_a_place_in_the_field_each_mix_guides(self):
        source = seeded(5)
        many = 0
        for game, field in led_games(6, 30) + barred_games(7, 30):
            for place in [nearest_of(field, place) for place in self.places(source)]:
                self.assertIsNotNone(self.check_guiding(game, field, place))
                for _ in range(3):
                    self.assertIs(is_guiding(game, field, pairs(*place), pairs(*some_mix(source, len(game)))), True)
                many += 1
        self.assertEqual(many, 180)

    def test_barred_fields_have_a_place_at_which_no_mix_guides(self):
        for game, field in barred_games(8, 60):
            mix = numbers(bar(game, field)[0])
            # the place of the means beside the mix that is nearest to the field: all means are beyond it
            place, near = nearest_pair(field, beside(game, mix), [tuple(numbers(corner)) for corner in corners(field)])
            self.assertIsNone(self.check_guiding(game, field, place))
            self.assertTrue(all(facing(place, near, worth) > 0 for worth in beside(game, mix)))
            for row in range(len(game)):
                self.assertIs(is_guiding(game, field, pairs(*place), pairs(*[int(row == at) for at in range(len(game))])),
                              False)

    def test_none_exactly_where_no_mix_keeps_all_columns_behind_the_nearest_place(self):
        source = seeded(9)
        seen = {True: 0, False: 0}
        for game, field in barred_games(10, 60) + led_games(11, 20):
            for place in self.places(source):
                near = nearest_of(field, place)
                told = self.check_guiding(game, field, place) is None
                rows = [[facing(place, near, worth) for worth in row] for row in spots(game)]
                self.assertIs(told, greatest_least(rows) > 0)
                seen[told] += 1
        self.assertGreater(min(seen.values()), 20)

    def test_is_guiding_by_own_sums(self):
        source = seeded(12)
        seen = set()
        for at in range(150):
            game, field = some_game(source, *SIZES[at % 9]), some_full_field(source)
            for place in self.places(source):
                mix = pairs(*some_mix(source, len(game)))
                told = guides(game, field, place, mix)
                self.assertIs(is_guiding(game, field, pairs(*place), mix), told)
                seen.add((told, inside(field, place)))
        self.assertEqual(seen, {(True, True), (True, False), (False, False)})

    def test_just_guiding_and_just_not(self):
        # at (0, 0) the nearest place is (1 / 2, 0): the share of the second row has to be 1 / 2 at least
        for off, told in [(0, True), (TINY, True), (-TINY, False)]:
            mix = pairs(Fraction(1, 2) - off, Fraction(1, 2) + off)
            self.assertIs(is_guiding(TICK, LEAN, (NIL, NIL), mix), told)

    def test_a_mix_that_has_to_be_just_one(self):
        for share in (Fraction(1, 3), Fraction(10 ** 50 + 9, 3 * 10 ** 50)):
            # the first column keeps x up to 0 for shares up to this one, the second column from it on
            game = told_game([[(1 - share, 0), (share - 1, 0)], [(-share, 0), (share, 0)]])
            field = grid([[1, 0, 0]])
            self.assertEqual(guiding_mix(game, field, (ONE, TWO)), pairs(share, 1 - share))
            self.assertIs(is_guiding(game, field, (ONE, TWO), pairs(share, 1 - share)), True)
            self.assertIs(is_guiding(game, field, (ONE, TWO), pairs(share - TINY, 1 - share + TINY)), False)
            self.assertIs(is_guiding(game, field, (LESS, TWO), pairs(share - TINY, 1 - share + TINY)), True)
            self.assertIsNone(guiding_mix(game, grid([[1, 0, -TINY]]), (ONE, TWO)))


class GuidedTest(unittest.TestCase):
    def own_first(self, game, field, plays):
        ahead = means(played(game, plays))
        for at in range(1, len(plays)):
            if not guides(game, field, ahead[at - 1], plays[at][0]):
                return at
        return None

    def own_reaches(self, game, field, plays):
        worths = played(game, plays)
        ahead = worths[:1] + means(worths)[:-1]
        return [square(worth, nearest_of(field, place)) for worth, place in zip(worths, ahead)]

    def test_no_round_and_one_round(self):
        source = seeded(20)
        for game, field in led_games(21, 9) + barred_games(22, 9):
            self.assertIsNone(first_unguided(game, field, ()))
            self.assertEqual(reach_sum(game, field, ()), NIL)
            plays = some_plays(source, game, 1)
            self.assertIsNone(first_unguided(game, field, plays))
            self.assertEqual(number(reach_sum(game, field, plays)), told_distance(field, played(game, plays)[0]))

    def test_any_plays(self):
        source = seeded(23)
        seen = set()
        for game, field in led_games(24, 90) + barred_games(25, 45):
            plays = some_plays(source, game, source.choice([2, 3, 7]))
            told = self.own_first(game, field, plays)
            self.assertEqual(first_unguided(game, field, plays), told)
            self.assertEqual(number(reach_sum(game, field, plays)), sum(self.own_reaches(game, field, plays)))
            seen.add(told)
        self.assertLessEqual({None, 1, 2}, seen)

    def test_the_index_of_the_first_round_that_does_not_guide(self):
        guided = [(UP, 0), (DOWN, 1), (DOWN, 0), (DOWN, 1)]
        self.assertIsNone(first_unguided(TICK, LEAN, tuple(guided[:2])))
        source = seeded(26)
        seen = set()
        for game, field in led_games(27, 45):
            told = list(steered(game, field, some_columns(source, game, 8)))
            self.assertIsNone(first_unguided(game, field, tuple(told)))
            for at in range(1, 8):
                place = means(played(game, told[:at]))[-1]
                for row in range(len(game)):
                    alone = pairs(*[int(row == k) for k in range(len(game))])
                    if not guides(game, field, place, alone):
                        wrong = tuple(told[:at]) + ((alone, told[at][1]),)
                        self.assertEqual(first_unguided(game, field, wrong), at)
                        self.assertEqual(first_unguided(game, field, wrong + ((alone, 0),) * 5), at)
                        seen.add(at)
        self.assertIn(1, seen)
        self.assertIn(7, seen)

    def test_forty_rounds(self):
        source = seeded(28)
        for game, field in led_games(29, 6):
            plays = some_plays(source, game, 40)
            self.assertEqual(first_unguided(game, field, plays), self.own_first(game, field, plays))
            self.assertEqual(number(reach_sum(game, field, plays)), sum(self.own_reaches(game, field, plays)))

    def test_the_round_bound(self):
        for at in range(60):
            source = seeded(30 + at)
            game, field = some_game(source, *SIZES[at % 9]), some_full_field(source)
            worths = [place for row in spots(game) for place in row]
            most = max(square(one, two) for one in worths for two in worths)
            away = max(told_distance(field, place) for place in worths)
            bound = number(round_bound(game, field))
            self.assertEqual(bound, 2 * (most + away))
            for _ in range(3):
                for reach in self.own_reaches(game, field, some_plays(source, game, 6)):
                    self.assertLessEqual(reach, bound)
        self.assertEqual(round_bound(told_game([[(3, 4)]]), grid([[1, 0, 0], [0, 1, 0]])), (50, 1))
        self.assertEqual(round_bound(told_game([[(3, 4)]]), grid([[1, 0, 3], [0, 1, 9]])), NIL)

    def test_the_mean_of_guided_plays_is_as_near_as_the_reaches_tell(self):
        source = seeded(100)
        for game, field in led_games(101, 60):
            plays = ()
            for many in range(1, 13):
                place = means(played(game, plays))[-1] if plays else (Fraction(0), Fraction(0))
                mix = guiding_mix(game, field, pairs(*place)) if plays else pairs(*some_mix(source, len(game)))
                plays += ((mix, source.randrange(len(game[0]))),)
                self.assertIsNone(first_unguided(game, field, plays))
                total = number(reach_sum(game, field, plays))
                away = told_distance(field, numbers(mean_of(game, plays)))
                self.assertLessEqual(many * many * away, total)
                self.assertLessEqual(total, many * number(round_bound(game, field)))


class SteeredTest(unittest.TestCase):
    def check_steered(self, game, field, columns):
        plays = steered(game, field, columns)
        self.assertIs(type(plays), tuple)
        self.assertEqual(tuple(column for _, column in plays), columns)
        worths = played(game, plays)
        for at, (mix, _) in enumerate(plays):
            self.assertTrue(is_mix(mix, len(game)))
            self.assertTrue(at == 0 or guides(game, field, means(worths[:at])[-1], mix), (game, field, plays))
        self.assertIsNone(first_unguided(game, field, plays))
        return plays

    def test_no_column_one_column_and_eight_columns(self):
        source = seeded(200)
        for game, field in led_games(201, 60):
            self.assertEqual(steered(game, field, ()), ())
            for many in (1, 2, 8):
                plays = self.check_steered(game, field, some_columns(source, game, many))
                away = told_distance(field, means(played(game, plays))[-1])
                self.assertLessEqual(many * many * away, many * number(round_bound(game, field)))

    def test_columns_that_do_their_worst(self):
        for game, field in led_games(202, 30):
            columns = ()
            for many in range(8):
                worse = [(told_distance(field, means(played(game, steered(game, field, columns + (column,))))[-1]), column)
                         for column in range(len(game[0]))]
                columns += (max(worse)[1],)
            self.check_steered(game, field, columns)

    def test_fields_that_just_can_be_led_into(self):
        source = seeded(203)
        for share in (Fraction(1, 2), Fraction(7, 19), Fraction(10 ** 30 + 1, 3 * 10 ** 30)):
            # the mix that guides is forced wherever the mean is: x and y are kept by one share each
            game = told_game([[(0, share), (0, -share)], [(share - 1, 0), (1 - share, 0)]])
            for _ in range(12):
                self.check_steered(game, QUARTER, some_columns(source, game, 8))
            field = grid([[1, 0, 0], [-1, 0, 0], [0, 1, 0], [0, -1, 0]])
            if is_led(game, field):
                self.check_steered(game, field, some_columns(source, game, 8))
        one_place = told_game([[(0, 0), (2, 2)], [(2, 2), (0, 0)]])
        for columns in [(0,) * 8, (0, 1) * 4, (0, 0, 1, 0, 1, 1, 1, 0)]:
            self.check_steered(one_place, grid([[1, 0, 1], [-1, 0, -1], [0, 1, 1], [0, -1, -1]]), columns)

    def test_barred_fields_are_refused_behind_empty_ones(self):
        for game, field in barred_games(204, 30):
            for columns in [(), (0,), (0,) * 8]:
                self.assertRaises(NotLed, steered, game, field, columns)
        self.assertRaises(EmptyField, steered, CROSS, EMPTY, (0,))
        self.assertRaises(EmptyField, steered, CROSS, EMPTY, ())

    def test_large_numbers(self):
        source = seeded(205)
        for many in (1, 2, 3):
            game = told_game([[(Fraction(source.randint(-10 ** 60, 10 ** 60), source.randint(1, 10 ** 60)),
                                Fraction(source.randint(-10 ** 60, 10 ** 60), source.randint(1, 10 ** 60)))
                               for _ in range(many)] for _ in range(3)])
            worths = against(game, some_mix(source, 3))
            x, y = max(x for x, _ in worths), max(y for _, y in worths)
            self.check_steered(game, grid([[1, 0, x], [0, 1, y], [1, 1, x + y]]), some_columns(source, game, 8))

    def test_empty_fields(self):
        plays = ((UP, 0),)
        for call in (lambda: guiding_mix(TICK, EMPTY, (NIL, NIL)), lambda: is_guiding(TICK, EMPTY, (NIL, NIL), UP),
                     lambda: first_unguided(TICK, EMPTY, plays), lambda: first_unguided(TICK, EMPTY, ()),
                     lambda: reach_sum(TICK, EMPTY, plays), lambda: reach_sum(TICK, EMPTY, ()),
                     lambda: round_bound(TICK, EMPTY)):
            self.assertRaises(EmptyField, call)


class MeansTest(unittest.TestCase):
    def test_the_reckoning_of_the_tests(self):
        self.assertEqual(means([(1, 2), (3, 6)]), [(1, 2), (2, 4)])
        self.assertEqual(mean([Fraction(1, 4), Fraction(3, 4)], [(0, 0), (4, 8)]), (3, 6))
        self.assertEqual(pair(facing((1, 1), (0, 0), (2, 3))), (5, 1))


if __name__ == "__main__":
    unittest.main()

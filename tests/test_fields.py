"""Points 8, 9 and 10 and steermeans/fields.py."""

import unittest
from fractions import Fraction
from itertools import combinations, permutations

from steermeans.errors import EmptyField
from steermeans.fields import corners, distance_square, is_empty, is_field, is_in, lies_within, nearest
from tests.helper import (dot, feasible, grid, inside, number, numbers, opposite_strictly, pair, pairs, rows_of_field,
                          seeded, some_field, some_fraction, strange, wrong_fractions)

NIL, HALF, ONE, TWO, LESS = (0, 1), (1, 2), (1, 1), (2, 1), (-1, 1)
LEAN = ((LESS, NIL, (-1, 2)), (NIL, ONE, HALF))
TIGHT = ((LESS, NIL, (-1, 2)), (NIL, ONE, (1, 4)))
QUARTER = ((ONE, NIL, NIL), (NIL, ONE, NIL))
TINY = Fraction(1, 10 ** 60)
LARGE = 10 ** 300

SQUARE = grid([[1, 0, 1], [-1, 0, 0], [0, 1, 1], [0, -1, 0]])
PLACE = grid([[1, 0, 2], [-1, 0, -2], [0, 1, 3], [0, -1, -3]])
LINE = grid([[1, 1, 1], [-1, -1, -1]])
STRIP = grid([[1, 0, 1], [-1, 0, 0]])
HALF_PLANE = grid([[1, 2, 3]])
WEDGE = grid([[-1, 0, 0], [0, -1, 0]])
STRETCH = grid([[0, 1, 0], [0, -1, 0], [1, 0, 1], [-1, 0, 0]])
RAY = grid([[0, 1, 0], [0, -1, 0], [-1, 0, 0]])
TRIANGLE = grid([[-1, 0, 0], [0, -1, 0], [1, 1, 2]])

EMPTY = {
    "opposite sides apart": [[1, 0, 0], [-1, 0, -1]],
    "opposite sides just apart": [[1, 2, 1], [-2, -4, -2 - TINY]],
    "three without a common place": [[-1, 0, 0], [0, -1, 0], [1, 1, -1]],
    "three just without one": [[-1, 0, 0], [0, -1, 0], [1, 1, -TINY]],
    "four": [[1, 0, 1], [-1, 0, 0], [0, 1, 1], [-1, -1, -2 - TINY]],
    "two pairs": [[1, 0, 1], [-1, 0, 0], [0, 1, 0], [0, -1, -1]],
    "five": [[1, 0, 1], [-1, 0, 0], [0, 1, 1], [0, -1, 0], [1, 1, -TINY]],
    "a line and a side": [[1, 1, 1], [-1, -1, -1], [1, 0, 0], [0, 1, 0]],
    "a line twice and aside": [[1, 0, 0], [-1, 0, 0], [2, 0, -1], [0, 1, 5], [0, -1, 5]],
    "large": [[LARGE, 1, 0], [-LARGE, -1, -TINY]],
}


def place(x, y):
    return pairs(x, y)


def spot(told):
    x, y = numbers(told)
    return (x, y)


def square_between(one, two):
    return (one[0] - two[0]) ** 2 + (one[1] - two[1]) ** 2


def fields(seed, many):
    source = seeded(seed)
    return [some_field(source) for _ in range(many)]


def full_fields(seed, many):
    return [field for field in fields(seed, many) if feasible(rows_of_field(field))]


def spots_of(source, many):
    return [(some_fraction(source, 9, 3), some_fraction(source, 9, 3)) for _ in range(many)]


class ExamplesTest(unittest.TestCase):
    def test_the_examples_of_the_document(self):
        self.assertEqual(
            [is_field(LEAN), is_field(((NIL, NIL, ONE),)), is_field(()), is_empty(((ONE, NIL, NIL), (LESS, NIL, LESS))),
             is_in(LEAN, (HALF, HALF)), is_in(LEAN, (NIL, NIL))],
            [True, False, False, True, True, False])
        self.assertEqual(
            [corners(LEAN), nearest(LEAN, (NIL, ONE)), distance_square(LEAN, (NIL, ONE)), nearest(LEAN, (NIL, NIL)),
             lies_within(TIGHT, LEAN), lies_within(LEAN, TIGHT)],
            [(((1, 2), (1, 2)),), ((1, 2), (1, 2)), (1, 2), ((1, 2), (0, 1)), True, False])
        self.assertEqual(
            [corners(((ONE, NIL, ONE), (LESS, NIL, NIL))), nearest(((ONE, ONE, ONE), (LESS, LESS, LESS)), (ONE, ONE)),
             lies_within(QUARTER, ((ONE, ONE, NIL),))],
            [(), ((1, 2), (1, 2)), True])

    def test_parameters_by_name(self):
        self.assertEqual(
            [is_field(value=LEAN), is_empty(field=LEAN), is_in(place=(NIL, NIL), field=LEAN), corners(field=LEAN),
             nearest(place=(NIL, ONE), field=LEAN), distance_square(place=(NIL, ONE), field=LEAN),
             lies_within(other=TIGHT, field=LEAN)],
            [True, False, False, (((1, 2), (1, 2)),), ((1, 2), (1, 2)), (1, 2), False])

    def test_equal_calls_have_equal_results_and_change_nothing(self):
        for field in full_fields(1, 40):
            again = tuple(tuple((n, m) for n, m in side) for side in field)
            self.assertEqual(corners(field), corners(again))
            self.assertEqual(nearest(field, (TWO, LESS)), nearest(again, (TWO, LESS)))
            self.assertEqual(field, again)


class IsFieldTest(unittest.TestCase):
    def test_good_fields(self):
        for field in fields(2, 60) + [SQUARE, PLACE, LINE, STRIP, HALF_PLANE, WEDGE, (LEAN[0],) * 5]:
            self.assertIs(is_field(field), True)
        for rows in EMPTY.values():
            self.assertIs(is_field(grid(rows)), True)

    def test_whatever_it_is(self):
        for value in strange() + wrong_fractions():
            self.assertIs(is_field(value), False, value)
            self.assertIs(is_field((value,)), False, value)
            self.assertIs(is_field((LEAN[0], value)), False, value)

    def test_numbers_that_are_no_fractions(self):
        for value in wrong_fractions():
            for side in [(value, ONE, ONE), (ONE, value, ONE), (ONE, ONE, value)]:
                self.assertIs(is_field((side,)), False, side)
                self.assertIs(is_field(LEAN + (side,)), False, side)

    def test_sides_too_many_too_few_too_short_too_long_or_without_direction(self):
        side = LEAN[0]
        for value in [(), (side,) * 6, side, (side[:2],), (side + (ONE,),), ((),), ((NIL, NIL, NIL),),
                      ((NIL, NIL, LESS),), (side, (NIL, NIL, ONE))]:
            self.assertIs(is_field(value), False, value)

    def test_a_list_in_the_place_of_a_tuple(self):
        side = LEAN[0]
        for value in [[side], (list(side),), ((list(side[0]), side[1], side[2]),), (side, list(side))]:
            self.assertIs(is_field(value), False, value)


class IsInTest(unittest.TestCase):
    def test_on_a_line_just_beside_it_and_at_corners(self):
        for x, y, told in [(0, 0, True), (1, 1, True), (1, 0, True), (Fraction(1, 2), 1, True), (1 + TINY, 1, False),
                           (1, 1 + TINY, False), (-TINY, 0, False), (1 - TINY, 1 - TINY, True), (0, -TINY, False),
                           (5, 5, False)]:
            self.assertIs(is_in(SQUARE, place(x, y)), told, (x, y))

    def test_slanted_lines(self):
        field = grid([[Fraction(2, 3), Fraction(-5, 7), Fraction(1, 4)]])
        for x in (Fraction(0), Fraction(3), Fraction(-11, 5)):
            y = (Fraction(2, 3) * x - Fraction(1, 4)) / Fraction(5, 7)
            self.assertIs(is_in(field, place(x, y)), True)
            self.assertIs(is_in(field, place(x, y + TINY)), True)
            self.assertIs(is_in(field, place(x, y - TINY)), False)

    def test_as_the_sides_tell(self):
        source = seeded(3)
        seen = set()
        for field in fields(4, 80):
            for x, y in spots_of(source, 6):
                told = inside(field, (x, y))
                self.assertIs(is_in(field, place(x, y)), told)
                seen.add(told)
        self.assertEqual(seen, {True, False})

    def test_nothing_is_in_an_empty_field(self):
        for rows in EMPTY.values():
            for x, y in [(0, 0), (1, 1), (Fraction(1, 2), Fraction(1, 2)), (LARGE, -LARGE)]:
                self.assertIs(is_in(grid(rows), place(x, y)), False)


class IsEmptyTest(unittest.TestCase):
    def test_empty_fields(self):
        for name, rows in EMPTY.items():
            for turned in permutations(rows):
                self.assertIs(is_empty(grid(turned)), True, name)

    def test_fields_that_are_not_empty(self):
        for field in [SQUARE, PLACE, LINE, STRIP, HALF_PLANE, WEDGE, STRETCH, RAY, TRIANGLE, LEAN, TIGHT, QUARTER]:
            for turned in permutations(field):
                self.assertIs(is_empty(turned), False)

    def test_fields_that_just_hold_one_place(self):
        for rows, x, y in [([[1, 0, 0], [-1, 0, 0], [0, 1, 0], [0, -1, 0]], 0, 0),
                           ([[-1, 0, 0], [0, -1, 0], [1, 1, 0]], 0, 0),
                           ([[1, 0, 1], [-1, 0, 0], [0, 1, 1], [-1, -1, -2]], 1, 1),
                           ([[1, 2, 3], [-1, 1, 0], [0, -1, -1]], 1, 1),
                           ([[1, 0, 1], [-1, 0, 0], [0, 1, 1], [0, -1, 0], [1, 1, 0]], 0, 0)]:
            field = grid(rows)
            self.assertIs(is_empty(field), False)
            self.assertEqual(corners(field), (place(x, y),))
            self.assertEqual(nearest(field, place(7, -9)), place(x, y))

    def test_as_elimination_tells(self):
        seen = {True: 0, False: 0}
        for field in fields(5, 700):
            told = not feasible(rows_of_field(field))
            self.assertIs(is_empty(field), told, field)
            seen[told] += 1
        self.assertGreater(min(seen.values()), 60)

    def test_far_away(self):
        self.assertIs(is_empty(grid([[1, 0, -LARGE], [0, 1, -LARGE], [-1, -1, 2 * LARGE]])), False)
        self.assertIs(is_empty(grid([[1, 0, -LARGE], [0, 1, -LARGE], [-1, -1, 2 * LARGE - TINY]])), True)


class CornersTest(unittest.TestCase):
    def test_named_fields(self):
        self.assertEqual(corners(SQUARE), grid([[0, 0], [0, 1], [1, 0], [1, 1]]))
        self.assertEqual(corners(PLACE), grid([[2, 3]]))
        self.assertEqual(corners(WEDGE), grid([[0, 0]]))
        self.assertEqual(corners(STRETCH), grid([[0, 0], [1, 0]]))
        self.assertEqual(corners(RAY), grid([[0, 0]]))
        self.assertEqual(corners(TRIANGLE), grid([[0, 0], [0, 2], [2, 0]]))

    def test_none_without_crossing_lines(self):
        for field in (STRIP, HALF_PLANE, LINE, HALF_PLANE * 5, STRIP + STRIP, grid([[1, 0, 1], [2, 0, 3]])):
            self.assertEqual(corners(field), ())

    def test_the_order_is_that_of_tuples_not_of_numbers(self):
        field = grid([[-1, 0, Fraction(-1, 3)], [1, 0, Fraction(1, 2)], [0, -1, Fraction(-2, 3)], [0, 1, Fraction(5, 2)]])
        self.assertEqual(corners(field), (((1, 2), (2, 3)), ((1, 2), (5, 2)), ((1, 3), (2, 3)), ((1, 3), (5, 2))))

    def test_several_lines_through_one_place_tell_it_once(self):
        field = grid([[1, 0, 0], [0, 1, 0], [1, 1, 0], [2, 1, 0], [1, 3, 0]])
        self.assertEqual(corners(field), grid([[0, 0]]))
        self.assertEqual(corners(grid([[-1, 0, 0], [0, -1, 0], [1, 1, 2], [1, -1, 2]])), grid([[0, 0], [0, 2], [2, 0]]))

    def test_a_line_that_touches_a_corner_alone(self):
        touched = SQUARE + grid([[1, 1, 2]])
        self.assertEqual(corners(touched), corners(SQUARE))
        cut = SQUARE + grid([[1, 1, 2 - TINY]])
        self.assertEqual(set(corners(cut)), set(grid([[0, 0], [0, 1], [1, 0], [1, 1 - TINY], [1 - TINY, 1]])))

    def test_equal_doubled_and_otherwise_told_sides(self):
        for more in (TRIANGLE[:1], TRIANGLE[2:], TRIANGLE[:2], grid([[2, 2, 4]]), grid([[Fraction(1, 7), Fraction(1, 7),
                     Fraction(2, 7)], [-5, 0, 0]])):
            self.assertEqual(corners(TRIANGLE + more), corners(TRIANGLE))

    def test_as_the_lines_tell(self):
        for field in full_fields(6, 400):
            told = corners(field)
            self.assertEqual(list(told), sorted(set(told)))
            found = set()
            for one, two in combinations(field, 2):
                (a, b, c), (d, e, f) = numbers(one), numbers(two)
                if a * e != b * d:
                    y = (a * f - d * c) / (a * e - d * b)
                    x = (c - b * y) / a if a else (f - e * y) / d
                    if inside(field, (x, y)):
                        found.add(place(x, y))
            self.assertEqual(set(told), found)

    def test_empty_fields(self):
        for rows in EMPTY.values():
            self.assertRaises(EmptyField, corners, grid(rows))


class NearestTest(unittest.TestCase):
    def check_nearest(self, field, x, y):
        """The nearest place lies in the field, and y less it is told by two sides whose lines go through it."""
        found = spot(nearest(field, place(x, y)))
        self.assertTrue(inside(field, found))
        off = (x - found[0], y - found[1])
        square = dot(off, off)
        self.assertEqual(distance_square(field, place(x, y)), pair(square))
        touched = [(a, b) for a, b, c, _ in rows_of_field(field) if a * found[0] + b * found[1] == c]
        self.assertTrue(square == 0 or any(self.is_between(off, one, two) for one in touched for two in touched),
                        (field, x, y))
        return found

    def is_between(self, off, one, two):
        """Whether off is a sum of multiples from 0 on of both."""
        turn = one[0] * two[1] - one[1] * two[0]
        if turn == 0:
            return off[0] * one[1] == off[1] * one[0] and dot(off, one) > 0
        first = (off[0] * two[1] - off[1] * two[0]) / turn
        second = (one[0] * off[1] - one[1] * off[0]) / turn
        return first >= 0 and second >= 0

    def test_on_a_line_and_at_a_corner(self):
        for x, y, told in [(3, Fraction(1, 2), (1, Fraction(1, 2))), (3, 3, (1, 1)), (-1, -1, (0, 0)),
                           (Fraction(1, 3), -4, (Fraction(1, 3), 0)), (1, 2, (1, 1)), (-5, 1, (0, 1)),
                           (2, 1 + TINY, (1, 1)), (2, 1 - TINY, (1, 1 - TINY))]:
            self.assertEqual(nearest(SQUARE, place(x, y)), place(*told))
            self.check_nearest(SQUARE, Fraction(x), Fraction(y))

    def test_of_places_in_the_field(self):
        for x, y in [(0, 0), (1, 1), (Fraction(1, 2), Fraction(1, 3)), (1 - TINY, 0)]:
            self.assertEqual(nearest(SQUARE, place(x, y)), place(x, y))
            self.assertEqual(distance_square(SQUARE, place(x, y)), NIL)

    def test_slanted_lines(self):
        self.assertEqual(nearest(grid([[3, 4, 0]]), place(3, 4)), place(0, 0))
        self.assertEqual(distance_square(grid([[3, 4, 0]]), place(3, 4)), (25, 1))
        self.assertEqual(nearest(grid([[1, 2, 3]]), place(3, 3)), pairs(Fraction(9, 5), Fraction(3, 5)))
        self.assertEqual(distance_square(grid([[1, 2, 3]]), place(3, 3)), (36, 5))

    def test_fields_of_one_place_a_line_a_strip_a_stretch_a_ray(self):
        self.assertEqual(nearest(PLACE, place(-4, 11)), place(2, 3))
        self.assertEqual(distance_square(PLACE, place(-4, 11)), (100, 1))
        self.assertEqual(nearest(LINE, place(5, 0)), place(3, -2))
        self.assertEqual(nearest(STRIP, place(5, 9)), place(1, 9))
        self.assertEqual([nearest(STRETCH, place(x, 2)) for x in (-3, 0, Fraction(1, 2), 4)],
                         [place(0, 0), place(0, 0), place(Fraction(1, 2), 0), place(1, 0)])
        self.assertEqual([nearest(RAY, place(x, 2)) for x in (-3, 4)], [place(0, 0), place(4, 0)])

    def test_just_beside_a_line(self):
        self.assertEqual(nearest(LINE, place(1, TINY)), place(1 - TINY / 2, TINY / 2))
        self.assertEqual(distance_square(LINE, place(1, TINY)), pair(TINY * TINY / 2))

    def test_of_any_field_and_place(self):
        source = seeded(7)
        kinds = set()
        for field in full_fields(8, 400):
            for x, y in spots_of(source, 3):
                found = self.check_nearest(field, x, y)
                kinds.add((found == (x, y), place(*found) in corners(field)))
        self.assertEqual(len(kinds), 4)

    def test_large_numbers(self):
        source = seeded(9)
        field = tuple(pairs(*[Fraction(source.randint(1, LARGE), source.randint(1, LARGE)) for _ in range(3)])
                      for _ in range(5))
        for x, y in [(LARGE, LARGE), (Fraction(LARGE, 7), -LARGE), (-LARGE, -LARGE)]:
            self.check_nearest(field, Fraction(x), Fraction(y))
        again = nearest(field, place(LARGE, LARGE))
        self.assertIs(is_in(field, again), True)
        self.assertEqual(nearest(field, again), again)

    def test_the_product_with_each_place_of_the_field_is_at_most_0(self):
        source = seeded(10)
        for field in full_fields(11, 120):
            many = [spot(nearest(field, place(x, y))) for x, y in spots_of(source, 6)]
            many += [spot(corner) for corner in corners(field)]
            for y in spots_of(source, 4):
                z = spot(nearest(field, place(*y)))
                off = (y[0] - z[0], y[1] - z[1])
                for w in many:
                    self.assertLessEqual(dot(off, (w[0] - z[0], w[1] - z[1])), 0)
                    self.assertGreaterEqual(square_between(y, w), dot(off, off))

    def test_nearest_places_are_no_farther_apart(self):
        source = seeded(12)
        for field in full_fields(13, 120):
            for one, two in combinations(spots_of(source, 4), 2):
                near = square_between(spot(nearest(field, place(*one))), spot(nearest(field, place(*two))))
                self.assertLessEqual(near, square_between(one, two))

    def test_the_distance_of_a_mean_is_at_most_the_mean_of_the_distances(self):
        source = seeded(14)
        for field in full_fields(15, 120):
            for one, two in combinations(spots_of(source, 4), 2):
                share = Fraction(source.randint(0, 7), 7)
                mean = tuple(share * a + (1 - share) * b for a, b in zip(one, two))
                away = [number(distance_square(field, place(*told))) for told in (one, two, mean)]
                # in squares: the root of away[2] is at most share times that of the first, and the rest of the second
                over = away[2] - share ** 2 * away[0] - (1 - share) ** 2 * away[1]
                if over > 0:
                    self.assertLessEqual(over ** 2, 4 * (share * (1 - share)) ** 2 * away[0] * away[1])

    def test_empty_fields(self):
        for rows in EMPTY.values():
            for function in (nearest, distance_square):
                self.assertRaises(EmptyField, function, grid(rows), place(0, 0))
                self.assertRaises(EmptyField, function, grid(rows), place(Fraction(1, 2), 1))


class LiesWithinTest(unittest.TestCase):
    def check_both(self, one, two, forth, back):
        for field in permutations(one):
            for other in permutations(two):
                self.assertIs(lies_within(field, other), forth, (field, other))
                self.assertIs(lies_within(other, field), back, (field, other))

    def test_fields_with_corners(self):
        self.check_both(SQUARE, TRIANGLE, True, False)
        self.check_both(TIGHT, LEAN, True, False)
        self.check_both(TRIANGLE, WEDGE, True, False)
        self.check_both(SQUARE, grid([[1, 0, 2], [-1, 0, -1], [0, 1, 1]]), False, False)

    def test_just_within_and_just_not(self):
        for share, told in [(0, True), (TINY, True), (-TINY, False)]:
            self.assertIs(lies_within(SQUARE, grid([[1, 1, 2 + share]])), told)
            self.assertIs(lies_within(TRIANGLE, grid([[2, 1, 4 + share]])), told)
            self.assertIs(lies_within(QUARTER, grid([[1, 5, share]])), told)
            self.assertIs(lies_within(STRIP, grid([[3, 0, 3 + share], [-1, 0, 1]])), told)
            self.assertIs(lies_within(PLACE, grid([[5, -1, 7 + share]])), told)
            self.assertIs(lies_within(HALF_PLANE, grid([[2, 4, 6 + share]])), told)

    def test_half_planes_strips_and_lines(self):
        self.check_both(HALF_PLANE, grid([[1, 2, 4]]), True, False)
        self.check_both(HALF_PLANE, grid([[Fraction(1, 3), Fraction(2, 3), 1]]), True, True)
        self.check_both(HALF_PLANE, grid([[-1, -2, 3]]), False, False)
        self.check_both(HALF_PLANE, grid([[1, 2 + TINY, 4]]), False, False)
        self.check_both(STRIP, grid([[1, 0, 1]]), True, False)
        self.check_both(STRIP, grid([[-1, 0, 1], [1, 0, 2]]), True, False)
        self.check_both(LINE, grid([[1, 1, 2], [-1, -1, 0]]), True, False)
        self.check_both(LINE, grid([[2, 2, 2], [-3, -3, -3]]), True, True)
        self.check_both(LINE, STRIP, False, False)

    def test_stretches_rays_and_single_places(self):
        self.check_both(STRETCH, RAY, True, False)
        self.check_both(STRETCH, SQUARE, True, False)
        self.check_both(PLACE, grid([[1, 1, 5], [1, -1, -1]]), True, False)
        self.check_both(PLACE, SQUARE, False, False)
        self.check_both(PLACE, grid([[1, 1, 5], [-1, -1, -5], [1, -1, -1], [-1, 1, 1]]), True, True)
        self.check_both(RAY, HALF_PLANE, False, False)

    def test_needless_and_doubled_sides(self):
        self.check_both(SQUARE, SQUARE[:3] + grid([[0, -5, 0]]), True, True)
        self.check_both(TRIANGLE, TRIANGLE + grid([[1, 1, 9]]), True, True)
        self.check_both(WEDGE, WEDGE + WEDGE[:1], True, True)

    def test_each_field_lies_within_itself_and_within_its_sides(self):
        for field in full_fields(16, 120):
            self.assertIs(lies_within(field, field), True)
            for side in field:
                self.assertIs(lies_within(field, (side,)), True)

    def test_as_elimination_tells(self):
        seen = {True: 0, False: 0}
        many = full_fields(17, 500)
        source = seeded(18)
        for field in many:
            for other in [source.choice(many), source.choice(many), field[1:] or field]:
                told = not any(feasible(rows_of_field(field) + [opposite_strictly(side)]) for side in other)
                self.assertIs(lies_within(field, other), told, (field, other))
                seen[told] += 1
        self.assertGreater(min(seen.values()), 100)

    def test_empty_fields_on_either_hand(self):
        for rows in EMPTY.values():
            self.assertRaises(EmptyField, lies_within, grid(rows), SQUARE)
            self.assertRaises(EmptyField, lies_within, SQUARE, grid(rows))
            self.assertRaises(EmptyField, lies_within, grid(rows), grid(rows))


if __name__ == "__main__":
    unittest.main()

"""Points 3, 4 and 6 and the first part of the interface: which error comes for which argument, and in which order."""

import unittest

from steermeans import fields, tables
from steermeans.errors import EmptyField, InvalidField, InvalidMix, InvalidPair, InvalidTable, MeanError
from tests.helper import grid, pairs, strange, wrong_fractions

NIL, HALF, ONE, TWO, LESS = (0, 1), (1, 2), (1, 1), (2, 1), (-1, 1)
TABLE = ((NIL, ONE, TWO), (TWO, ONE, LESS))
LOW = (HALF, HALF)
HIGH = (HALF, NIL, HALF)
FIELD = ((LESS, NIL, (-1, 2)), (NIL, ONE, HALF))
EMPTY = ((ONE, NIL, NIL), (LESS, NIL, LESS))
PLACE = (HALF, TWO)

TABLE_ALONE = [tables.worth, tables.low_mix, tables.high_mix, tables.turned_table]
OF_ROWS = [tables.columns_of, tables.is_low_mix]
OF_COLUMNS = [tables.rows_of, tables.is_high_mix]
FIELD_ALONE = [fields.is_empty, fields.corners]
FIELD_AND_PLACE = [fields.is_in, fields.nearest, fields.distance_square]


def wrong_tables():
    """Values that are no tables."""
    told = strange() + [(), ((),), ((), ()), ONE, (ONE,), (ONE, TWO), [[ONE]], [(ONE,)], ([ONE],), (([1, 1],),),
                        ((ONE, [1, 1]),), ((ONE,), [ONE]), ((ONE,), ()), ((ONE,), (ONE, TWO)), ((ONE, TWO), (ONE,)),
                        ((ONE,),) * 5, ((ONE,) * 5,), (((ONE,),),)]
    told += [(value,) for value in strange()] + [((ONE,), value) for value in strange()]
    return told + [((ONE, value), (ONE, ONE)) for value in wrong_fractions()]


def wrong_fields():
    """Values that are no fields; those without a place are fields."""
    side = FIELD[0]
    told = strange() + [(), ((),), side, [side], (list(side),), (side, list(side)), (side,) * 6, (side[:2],),
                        (side + (ONE,),), ((NIL, NIL, ONE),), ((NIL, NIL, NIL), side), (FIELD,)]
    told += [(value,) for value in strange()] + [(side, value) for value in strange()]
    for value in wrong_fractions():
        told += [(side, (value, ONE, ONE)), ((ONE, value, ONE),), ((ONE, ONE, value), side)]
    return told


def wrong_places():
    """Values that are no pairs of fractions."""
    told = strange() + [(), (ONE,), ONE, (ONE, ONE, ONE), [ONE, ONE], ((ONE, ONE),), (ONE, 1), (1, ONE)]
    return told + [(value, ONE) for value in wrong_fractions()] + [(ONE, value) for value in wrong_fractions()]


def wrong_mixes(many):
    """Pairs of a value that is no mix of so many, and the index of its error."""
    told = [(value, None) for value in strange() + [(), (ONE,) * (many - 1), (ONE,) + (NIL,) * many, [ONE] * many]]
    told += [((ONE,) + (NIL,) * (more - 1), None) for more in range(1, 6) if more != many]
    for value in wrong_fractions() + [(-1, 1), (-1, 10 ** 60), (-7, 3)]:
        for at in range(many):
            mix = [NIL] * many
            mix[at] = value
            told.append((tuple(mix), at))
            told.append((tuple(mix[:at + 1]) + (value,) * (many - at - 1), at))
    for parts in [(ONE,) * many, (NIL,) * many, (HALF,) + (NIL,) * (many - 1), ((2 ** 70 - 1, 2 ** 70),) + (NIL,) *
                  (many - 1), ((2 ** 70 + 1, 2 ** 70),) + (NIL,) * (many - 1)]:
        if parts != (ONE,):
            told.append((parts, None))
    return told


class ArgumentsTest(unittest.TestCase):
    def assert_given(self, error, function, *arguments, given):
        with self.assertRaises(error) as caught:
            function(*arguments)
        self.assertIs(type(caught.exception), error)
        self.assertIs(caught.exception.given, given)

    def assert_index(self, index, function, *arguments):
        with self.assertRaises(InvalidMix) as caught:
            function(*arguments)
        self.assertEqual((type(caught.exception), caught.exception.index), (InvalidMix, index), arguments)

    def test_the_same_calls_with_good_arguments_answer(self):
        for function in TABLE_ALONE:
            function(TABLE)
        for function in OF_ROWS:
            function(TABLE, LOW)
        for function in OF_COLUMNS:
            function(TABLE, HIGH)
        for function in FIELD_ALONE:
            function(FIELD)
        for function in FIELD_AND_PLACE:
            function(FIELD, PLACE)
        fields.lies_within(FIELD, FIELD)

    def test_wrong_tables(self):
        for value in wrong_tables():
            for function in TABLE_ALONE:
                self.assert_given(InvalidTable, function, value, given=value)
            for function in OF_ROWS:
                self.assert_given(InvalidTable, function, value, LOW, given=value)
            for function in OF_COLUMNS:
                self.assert_given(InvalidTable, function, value, HIGH, given=value)

    def test_wrong_mixes(self):
        for value, index in wrong_mixes(2):
            for function in OF_ROWS:
                self.assert_index(index, function, TABLE, value)
        for value, index in wrong_mixes(3):
            for function in OF_COLUMNS:
                self.assert_index(index, function, TABLE, value)
        for value, index in wrong_mixes(1):
            for function in OF_ROWS:
                self.assert_index(index, function, (TABLE[0],), value)
            for function in OF_COLUMNS:
                self.assert_index(index, function, ((ONE,), (TWO,)), value)

    def test_a_mix_of_the_other_one_is_none(self):
        for function in OF_ROWS:
            self.assert_index(None, function, TABLE, HIGH)
        for function in OF_COLUMNS:
            self.assert_index(None, function, TABLE, LOW)

    def test_the_first_wrong_part_of_a_mix_is_told(self):
        for function in OF_COLUMNS:
            self.assert_index(0, function, TABLE, ((-1, 1), (2, 4), ONE))
            self.assert_index(1, function, TABLE, (ONE, (2, 4), (-1, 1)))
            self.assert_index(2, function, TABLE, (ONE, ONE, None))
            self.assert_index(2, function, TABLE, (ONE, ONE, LESS))

    def test_wrong_fields(self):
        for value in wrong_fields():
            for function in FIELD_ALONE:
                self.assert_given(InvalidField, function, value, given=value)
            for function in FIELD_AND_PLACE:
                self.assert_given(InvalidField, function, value, PLACE, given=value)
            self.assert_given(InvalidField, fields.lies_within, value, FIELD, given=value)
            self.assert_given(InvalidField, fields.lies_within, FIELD, value, given=value)

    def test_wrong_places(self):
        for value in wrong_places():
            for function in FIELD_AND_PLACE:
                self.assert_given(InvalidPair, function, FIELD, value, given=value)

    def test_of_two_wrong_arguments_the_first_is_told(self):
        wrong = [1]
        for function in OF_ROWS + OF_COLUMNS:
            self.assert_given(InvalidTable, function, wrong, None, given=wrong)
        for function in FIELD_AND_PLACE:
            self.assert_given(InvalidField, function, wrong, None, given=wrong)
        self.assert_given(InvalidField, fields.lies_within, wrong, [2], given=wrong)
        for function in OF_ROWS + OF_COLUMNS:
            with self.assertRaises(InvalidTable):
                function(mix=None, table=None)
        for function in FIELD_AND_PLACE:
            with self.assertRaises(InvalidField):
                function(place=None, field=None)

    def test_an_empty_field_is_told_last(self):
        wrong = (ONE, 1)
        for function in [fields.nearest, fields.distance_square]:
            self.assert_given(InvalidPair, function, EMPTY, wrong, given=wrong)
            self.assertRaises(EmptyField, function, EMPTY, PLACE)
        self.assertRaises(EmptyField, fields.corners, EMPTY)
        self.assert_given(InvalidField, fields.lies_within, EMPTY, wrong, given=wrong)
        self.assert_given(InvalidField, fields.lies_within, wrong, EMPTY, given=wrong)
        for field, other in [(EMPTY, FIELD), (FIELD, EMPTY), (EMPTY, EMPTY)]:
            self.assertRaises(EmptyField, fields.lies_within, field, other)

    def test_an_empty_field_is_let_by_is_field_is_empty_and_is_in(self):
        self.assertEqual([fields.is_field(EMPTY), fields.is_empty(EMPTY), fields.is_in(EMPTY, PLACE)],
                         [True, True, False])
        self.assert_given(InvalidPair, fields.is_in, EMPTY, None, given=None)

    def test_wrong_values_by_name(self):
        calls = [(lambda wrong: tables.worth(table=wrong), InvalidTable),
                 (lambda wrong: tables.low_mix(table=wrong), InvalidTable),
                 (lambda wrong: tables.high_mix(table=wrong), InvalidTable),
                 (lambda wrong: tables.turned_table(table=wrong), InvalidTable),
                 (lambda wrong: tables.columns_of(mix=LOW, table=wrong), InvalidTable),
                 (lambda wrong: tables.rows_of(mix=HIGH, table=wrong), InvalidTable),
                 (lambda wrong: fields.is_empty(field=wrong), InvalidField),
                 (lambda wrong: fields.corners(field=wrong), InvalidField),
                 (lambda wrong: fields.is_in(place=PLACE, field=wrong), InvalidField),
                 (lambda wrong: fields.nearest(place=wrong, field=FIELD), InvalidPair),
                 (lambda wrong: fields.distance_square(place=wrong, field=FIELD), InvalidPair),
                 (lambda wrong: fields.lies_within(other=wrong, field=FIELD), InvalidField)]
        for call, error in calls:
            self.assert_given(error, call, "wrong", given="wrong")

    def test_what_is_told_for_anything_is_true_or_false_alone(self):
        for value in wrong_tables():
            self.assertIs(tables.is_table(value), False, value)
        for value in wrong_fields():
            self.assertIs(fields.is_field(value), False, value)
        self.assertIs(tables.is_table(TABLE), True)
        self.assertIs(fields.is_field(FIELD), True)
        self.assertIs(tables.is_table(FIELD), True)
        self.assertIs(fields.is_field(grid([[1, 2, 3], [3, 4, 5]])), True)

    def test_arguments_are_left_as_they_are(self):
        rows = [[[1, 1], TWO], {"a": [3]}]
        with self.assertRaises(InvalidTable) as caught:
            tables.worth(rows)
        self.assertIs(caught.exception.given, rows)
        self.assertEqual(rows, [[[1, 1], TWO], {"a": [3]}])

    def test_deep_values(self):
        deep = ONE
        for _ in range(12):
            deep = (deep, deep)
        for function in TABLE_ALONE:
            self.assert_given(InvalidTable, function, deep, given=deep)
        for function in FIELD_ALONE:
            self.assert_given(InvalidField, function, deep, given=deep)

    def test_each_error_is_a_mean_error(self):
        for call in (lambda: tables.worth(None), lambda: tables.rows_of(TABLE, None), lambda: fields.corners(EMPTY),
                     lambda: fields.nearest(FIELD, None)):
            self.assertRaises(MeanError, call)

    def test_whole_numbers_of_several_hundred_figures(self):
        large = 10 ** 399 + 1
        self.assertEqual(tables.worth((((large, 2 ** 1000),),)), (large, 2 ** 1000))
        self.assertEqual(fields.nearest(((ONE, NIL, (large, 2 ** 1000)),), (pairs(10 ** 399)[0], NIL)),
                         ((large, 2 ** 1000), NIL))
        wrong = (((large * 6, 4),),)
        self.assert_given(InvalidTable, tables.worth, wrong, given=wrong)


if __name__ == "__main__":
    unittest.main()

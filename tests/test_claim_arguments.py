"""Points 3, 4 and 5 and the interface, for chances, plans and certificates: which error comes for what."""

import unittest

from steermeans import certificates, chances, checker, plans
from steermeans.errors import (InvalidColumns, InvalidDays, InvalidFraction, InvalidMix, InvalidNumber, InvalidPlan,
                               InvalidTable, UnlikeTables)
from tests.calls import CallsCheck, given, index
from tests.helper import strange, wrong_fractions
from tests.test_arguments import wrong_mixes, wrong_tables
from tests.test_game_arguments import COLUMNS as MIX_OF_COLUMNS
from tests.test_game_arguments import FIELD, GAME, PLACE
from tests.test_game_arguments import WRONG as WRONG_OF_GAMES
from tests.test_plans import wrong_levels
from tests.test_table_arguments import SECOND, SHARES, TABLE, WEIGHTS
from tests.test_table_arguments import WRONG as WRONG_OF_TABLES

NIL, HALF, ONE, TWO, LESS = (0, 1), (1, 2), (1, 1), (2, 1), (-1, 1)
ROWS = (HALF, HALF)
# chances by two steps, so that a mix has three parts
DAYS = (((HALF, NIL, HALF), 1), ((NIL, ONE, NIL), 0))
SAID = (NIL, HALF, HALF)
# TABLE has two rows and three columns
PLAN = ((0,), (1, 0, 1), (1, 0, 0, 1, 1, 0, 0, 1, 1))
TELLING = ((HALF,), (ONE, NIL), (HALF, (1, 3), (1, 4), ONE))

CALLS = [
    (chances.over_of, ["steps", "days"], (2, DAYS)),
    (chances.under_of, ["steps", "days"], (2, DAYS)),
    (chances.said_mix, ["steps", "days"], (2, DAYS)),
    (chances.steady_mix, ["steps", "days", "mix of chances"], (2, DAYS, SAID)),
    (chances.is_steady, ["steps", "days"], (2, DAYS)),
    (chances.left_squares, ["steps", "days"], (2, DAYS)),
    (chances.day_squares, ["steps", "days"], (2, DAYS)),
    (plans.is_plan, ["table", "value"], (TABLE, PLAN)),
    (plans.rows_along, ["table", "plan", "columns"], (TABLE, PLAN, (0, 2, 1))),
    (plans.gain_of, ["table", "plan", "columns"], (TABLE, PLAN, (0, 2, 1))),
    (plans.regret_of, ["table", "plan", "columns"], (TABLE, PLAN, (0, 2, 1))),
    (plans.worst_regret, ["table", "plan"], (TABLE, PLAN)),
    (plans.worst_columns, ["table", "plan"], (TABLE, PLAN)),
    (plans.spoil_of, ["table", "mix"], (TABLE, ROWS)),
    (plans.spoiling_columns, ["table", "mix", "plan"], (TABLE, ROWS, PLAN)),
    (plans.least_regret, ["table", "levels"], (TABLE, 2)),
    (plans.best_plan, ["table", "levels"], (TABLE, 2)),
    (plans.is_telling, ["value"], (TELLING,)),
    (plans.rains_against, ["telling"], (TELLING,)),
    (plans.wrong_along, ["telling", "rains"], (TELLING, (0, 1, 1))),
    (plans.worst_wrong, ["telling"], (TELLING,)),
    (certificates.certify_worth, ["table"], (TABLE,)),
    (certificates.certify_led, ["game", "field"], (GAME, FIELD)),
    (certificates.certify_answer, ["game", "field", "mix of columns"], (GAME, FIELD, MIX_OF_COLUMNS)),
    (certificates.certify_guiding, ["game", "field", "place"], (GAME, FIELD, PLACE)),
    (certificates.certify_widening, ["game", "field", "widths", "many"], (GAME, FIELD, (ONE, HALF), 7)),
    (certificates.certify_correlated, ["first", "second", "shares"], (TABLE, SECOND, SHARES)),
    (certificates.certify_sum, ["first", "second", "weights", "fraction"], (TABLE, SECOND, WEIGHTS, HALF)),
]


def whole_strange():
    """Values of every kind, 0 and 1 left out."""
    return [value for value in strange() if type(value) is not int or value not in (0, 1)]


def wrong_steps():
    """Values that are no whole numbers from 1 to 6."""
    return whole_strange() + [0, 7, -1, ONE, TWO, (), (2,), 10 ** 400]


def wrong_level_numbers():
    """Values that are no whole numbers from 1 to 5."""
    return whole_strange() + [0, 6, -1, ONE, TWO, (), (2,), 10 ** 400]


def wrong_days():
    """Pairs of a value that is no days of two steps, and the index of its error."""
    good = DAYS[0]
    told = [(value, None) for value in strange() + [[good], [], {good: 1}]]
    wrong = strange() + [(), (SAID,), (SAID, 1, 1), [SAID, 1], (1, SAID), (list(SAID), 1), (ROWS, 1), (SAID + (NIL,), 1),
                         ((ONE, ONE, ONE), 1), ((NIL,) * 3, 0), ((LESS, TWO, NIL), 1), (((2, 4), HALF, NIL), 1), ((), 0)]
    wrong += [(SAID, value) for value in whole_strange() + [-1, 2, 10 ** 30, ONE, NIL, (1,)]]
    wrong += [((value, NIL, HALF), 0) for value in wrong_fractions()] + [((ONE, NIL, value), 1) for value in wrong_fractions()]
    for value in wrong:
        told += [((value,), 0), ((good, good, value), 2), ((good,) * 39 + (value,), 39), ((value, value), 0)]
    return told + [((good,) * 41, 40), ((good,) * 60, 40), ((good,) * 40 + (None,), 40), ((good,) * 7 + (None,) * 50, 7)]


def wrong_plans():
    """Values that are no plans for TABLE."""
    told = wrong_levels(PLAN, 0, 5)
    for wrong in [-1, 2, 10 ** 30, True, False, None, "0", b"0", ONE, (0,), [0], {}]:
        told += [((wrong,),), PLAN[:1] + ((0, wrong, 1),), PLAN[:2] + (PLAN[2][:-1] + (wrong,),)]
    return told


def wrong_tellings():
    """Values that are no tellings."""
    told = wrong_levels(TELLING, HALF, 5)
    for wrong in wrong_fractions() + [LESS, TWO, (-1, 10 ** 60), (10 ** 60 + 1, 10 ** 60)]:
        told += [((wrong,),), TELLING[:1] + ((ONE, wrong),), TELLING[:2] + ((NIL, NIL, ONE, wrong),)]
    return told


def wrong_along(wrong):
    """Pairs of a value that is none of three whole numbers, and the index of its error; what is wrong is told."""
    told = [(value, None) for value in strange() + [(), (0,), (0, 1), (0, 1, 0, 1), [0, 1, 0], (0,) * 41, ((0, 1, 0),)]]
    for value in wrong + [-1, 10 ** 30, None, True, False, "0", "", b"0", [0], (0,), (), {}, ONE]:
        told += [((value, 0, 1), 0), ((0, value, 1), 1), ((1, 0, value), 2), ((0, value, value), 1), ((value,) * 3, 0)]
    return told


WRONG = {
    **WRONG_OF_GAMES, **WRONG_OF_TABLES,
    "steps": given(InvalidNumber, wrong_steps()),
    "days": index(InvalidDays, wrong_days()),
    "mix of chances": index(InvalidMix, wrong_mixes(3) + [(ROWS, None)]),
    "mix": index(InvalidMix, wrong_mixes(2) + [(SAID, None)]),
    "table": given(InvalidTable, wrong_tables()),
    "plan": given(InvalidPlan, wrong_plans()),
    "columns": index(InvalidColumns, wrong_along([3])),
    "levels": given(InvalidNumber, wrong_level_numbers()),
    "telling": given(InvalidPlan, wrong_tellings()),
    "rains": index(InvalidDays, wrong_along([2])),
    "fraction": given(InvalidFraction, wrong_fractions()),
}


class ClaimArgumentsTest(CallsCheck, unittest.TestCase):
    calls, wrong = CALLS, WRONG
    lets = {(plans.is_plan, "value"), (plans.is_telling, "value")}

    def test_each_function_is_defined_in_its_file(self):
        for module, names in [(chances, "over_of under_of said_mix steady_mix is_steady left_squares day_squares"),
                              (plans, "is_plan rows_along gain_of regret_of worst_regret worst_columns spoil_of "
                                      "spoiling_columns least_regret best_plan is_telling rains_against wrong_along "
                                      "worst_wrong"),
                              (checker, "accepts"),
                              (certificates, "certify_worth certify_led certify_answer certify_guiding certify_widening "
                                             "certify_correlated certify_sum")]:
            for name in names.split():
                self.assertEqual(getattr(module, name).__module__, module.__name__)

    def test_values_that_are_let(self):
        for value in wrong_plans():
            self.assertIs(plans.is_plan(TABLE, value), False)
        for value in wrong_tellings():
            self.assertIs(plans.is_telling(value), False)
        for value in (None, [1], PLAN):
            for told in WRONG["table"][::7]:
                self.check_error(told, plans.is_plan, told[0], value)

    def test_steps_at_their_bounds(self):
        for steps in range(1, 7):
            mix = (NIL,) * steps + (ONE,)
            for function, parameters, good in CALLS:
                if "steps" in parameters:
                    function(steps, ((mix, 1),) * 40, *[mix for _ in good[2:]])
                    function(steps, (), *[mix for _ in good[2:]])
                    for other in range(1, 9):
                        if other != steps + 1:
                            wrong = ((NIL,) * (other - 1) + (ONE,), 1)
                            self.check_error((None, InvalidDays, "index", 0), function, steps, (wrong,), *good[2:])
                    self.check_error((None, InvalidDays, "index", 40), function, steps, ((mix, 1),) * 41, *good[2:])

    def test_levels_at_their_bounds(self):
        for width in range(1, 5):
            table, most = ((ONE,) * width,) * 2, 4 if width == 4 else 5
            for function in (plans.least_regret, plans.best_plan):
                for levels in range(1, most + 1):
                    function(table, levels)
                for levels in (0, most + 1, True):
                    self.check_error((levels, InvalidNumber, "given", levels), function, table, levels)

    def test_a_plan_of_five_levels_for_four_columns(self):
        table = ((ONE,) * 4,) * 2
        plan = tuple((0,) * 4 ** at for at in range(5))
        for function, good in [(plans.worst_regret, ()), (plans.worst_columns, ()), (plans.gain_of, ((0,) * 5,))]:
            self.check_error((plan, InvalidPlan, "given", plan), function, table, plan, *good)
            function(table, plan[:4], *[columns[:4] for columns in good])

    def test_columns_and_rains_are_as_many_as_levels(self):
        for levels in range(1, 6):
            plan = tuple((0,) * 3 ** at for at in range(levels))
            telling = tuple((HALF,) * 2 ** at for at in range(levels))
            for many in range(7):
                if many == levels:
                    plans.regret_of(TABLE, plan, (2,) * many)
                    plans.wrong_along(telling, (1,) * many)
                else:
                    self.check_error((None, InvalidColumns, "index", None), plans.regret_of, TABLE, plan, (2,) * many)
                    self.check_error((None, InvalidDays, "index", None), plans.wrong_along, telling, (1,) * many)

    def test_unlike_tables_of_certificates(self):
        for function, good in [(certificates.certify_correlated, (SHARES,)), (certificates.certify_sum, (WEIGHTS, HALF))]:
            for other in (((ONE, TWO),), TABLE[:1], TABLE + TABLE[:1]):
                for arguments in [(TABLE, other) + good, (other, TABLE) + good, (TABLE, other) + (None,) * len(good)]:
                    with self.assertRaises(UnlikeTables):
                        function(*arguments)

    def test_fractions_of_either_sign_and_size(self):
        for fraction in (NIL, LESS, (-10 ** 399, 3), (1, 10 ** 399)):
            self.assertIs(checker.accepts(*certificates.certify_sum(TABLE, SECOND, WEIGHTS, fraction)), True)

    def test_what_was_returned_may_be_passed_on(self):
        large = (10 ** 399 + 1, 3 ** 800)
        days = ((((1, 3), (2, 3)), 1), (((2, 5), (3, 5)), 0))
        for rain in (1, 0, 0, 1, 1, 0):
            days += ((chances.said_mix(1, days), rain),)
        self.assertIs(chances.steady_mix(1, days, chances.said_mix(1, days)), True)
        table = ((large, NIL), (ONE, large))
        plan = plans.best_plan(table, 4)
        self.assertIs(plans.is_plan(table, plan), True)
        self.assertEqual(plans.regret_of(table, plan, plans.worst_columns(table, plan)), plans.least_regret(table, 4))
        self.assertIs(checker.accepts(*certificates.certify_worth(table)), True)


if __name__ == "__main__":
    unittest.main()

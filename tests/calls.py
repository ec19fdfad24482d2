"""What is the same for the errors of all functions: which error comes for which argument, and which one first."""

from steermeans.errors import EmptyField, MeanError

NIL, ONE, LESS = (0, 1), (1, 1), (-1, 1)
EMPTY = ((ONE, NIL, NIL), (LESS, NIL, LESS))


def given(error, values):
    """What is expected for wrong values whose error keeps them."""
    return [(value, error, "given", value) for value in values]


def index(error, told):
    """What is expected for wrong values whose error tells an index."""
    return [(value, error, "index", at) for value, at in told]


def name_of(parameter):
    """The name of a parameter, which may be followed by what is told of it here."""
    return parameter.split(" ")[0]


class CallsCheck:
    """Tests of `calls`: each function, its parameters in order, and good arguments for them.

    For each parameter `wrong` has wrong values, each with its error, its attribute and what this should be. `lets` is
    the set of pairs of a function and a parameter's name that takes whatever it is.
    """

    calls, wrong, lets = [], {}, set()

    def check_error(self, told, function, *arguments, **named):
        """The error is just the one that is told, with its attribute."""
        _, error, attribute, expected = told
        with self.assertRaises(MeanError) as caught:
            function(*arguments, **named)
        self.assertIs(type(caught.exception), error, (function, arguments))
        kept = getattr(caught.exception, attribute)
        self.assertTrue(kept is expected or (type(kept) is int and kept == expected), (function, arguments, kept))
        self.assertEqual(list(vars(caught.exception)), [attribute])

    def places(self):
        """Each function with a place of its parameters that may be wrong."""
        for function, parameters, good in self.calls:
            for at, parameter in enumerate(parameters):
                if (function, parameter) not in self.lets:
                    yield function, parameters, good, at, self.wrong[parameter]

    def test_the_same_calls_with_good_arguments_answer(self):
        for function, parameters, good in self.calls:
            names = [name_of(parameter) for parameter in parameters]
            self.assertEqual(function(*good), function(**dict(zip(names, good))))
            self.assertEqual(function(*good), function(**dict(list(zip(names, good))[::-1])))

    def test_each_parameter_has_its_name_and_its_place(self):
        for function, parameters, _ in self.calls:
            code = function.__code__
            self.assertEqual(list(code.co_varnames[:code.co_argcount]), [name_of(told) for told in parameters])
            self.assertIsNone(function.__defaults__)

    def test_wrong_values_of_each_argument(self):
        for function, _, good, at, wrong in self.places():
            for told in wrong:
                self.check_error(told, function, *good[:at], told[0], *good[at + 1:])

    def test_wrong_values_by_name(self):
        for function, parameters, good, at, wrong in self.places():
            names = [name_of(parameter) for parameter in parameters]
            for told in wrong[::29]:
                self.check_error(told, function, **{**dict(zip(names, good)), names[at]: told[0]})

    def test_of_wrong_arguments_the_first_is_told(self):
        for function, parameters, good, at, wrong in self.places():
            for later in range(at + 1, len(parameters)):
                if (function, parameters[later]) in self.lets:
                    continue
                for told, other in zip(wrong[::17], self.wrong[parameters[later]][::13] * 9):
                    arguments = list(good)
                    arguments[at], arguments[later] = told[0], other[0]
                    self.check_error(told, function, *arguments)
            for told in wrong[::23]:
                self.check_error(told, function, *good[:at], told[0], *[None] * (len(good) - at - 1))

    def test_an_empty_field_is_told_behind_all_other_errors(self):
        for function, parameters, good in self.calls:
            if "field" in parameters:
                empty = [EMPTY if parameter == "field" else told for parameter, told in zip(parameters, good)]
                with self.assertRaises(EmptyField) as caught:
                    function(*empty)
                self.assertEqual(vars(caught.exception), {})
                for at, parameter in enumerate(parameters):
                    if parameter != "field":
                        for told in self.wrong[parameter][::7]:
                            self.check_error(told, function, *empty[:at], told[0], *empty[at + 1:])

    def test_deep_values(self):
        deep = ONE
        for _ in range(12):
            deep = (deep, deep)
        for function, _, good, at, _ in self.places():
            with self.assertRaises(MeanError):
                function(*good[:at], deep, *good[at + 1:])

    def test_arguments_are_left_as_they_are(self):
        rows = [[[1, 1], (2, 1)], {"a": [3]}]
        for function, _, good, at, _ in self.places():
            with self.assertRaises(MeanError):
                function(*good[:at], rows, *good[at + 1:])
            self.assertEqual(rows, [[[1, 1], (2, 1)], {"a": [3]}])

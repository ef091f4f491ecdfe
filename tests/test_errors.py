import unittest

from piecefacts import errors
from piecefacts.errors import FactsError
from tests.any_values import ANY_VALUES

ARGUMENTS = {
    "BadColumn": ("value",), "BadRanges": ("value",), "BadFlag": ("value",), "BadQuestion": ("value",),
    "BadCount": ("value",), "BadColumns": ("value",), "BadRow": ("value",), "BadPoints": ("value",),
    "BadText": ("line",), "NoColumn": ("value",), "NoRow": ("value",), "NoVersion": ("value",),
    "NoPiece": ("value",), "Twice": ("column",), "TooMany": ("limit",), "SameTable": (), "NothingToDo": (),
}


class ErrorsTest(unittest.TestCase):
    def test_all_errors_stand_directly_below_facts_error(self):
        self.assertEqual(FactsError.__bases__, (ValueError,))
        for name in ARGUMENTS:
            self.assertEqual(getattr(errors, name).__bases__, (FactsError,), name)
            self.assertEqual(getattr(errors, name).__module__, "piecefacts.errors")
        self.assertEqual(sorted(kind.__name__ for kind in FactsError.__subclasses__()), sorted(ARGUMENTS))

    def test_arguments_are_kept_whatever_they_are_by_position_and_by_name(self):
        for name, arguments in ARGUMENTS.items():
            kind = getattr(errors, name)
            for value in ANY_VALUES:
                for argument in arguments:
                    self.assertIs(getattr(kind(value), argument), value)
                    self.assertIs(getattr(kind(**{argument: value}), argument), value)

    def test_errors_keep_nothing_else(self):
        for name, arguments in ARGUMENTS.items():
            error = getattr(errors, name)(*[7 for _ in arguments])
            self.assertEqual(vars(error), {argument: 7 for argument in arguments})

    def test_other_arguments_are_refused(self):
        for name, arguments in ARGUMENTS.items():
            if arguments:
                with self.assertRaises(TypeError):
                    getattr(errors, name)()
                with self.assertRaises(TypeError):
                    getattr(errors, name)(wrong=1)

    def test_errors_are_caught_as_facts_errors_and_value_errors(self):
        for name, arguments in ARGUMENTS.items():
            for caught in (getattr(errors, name), FactsError, ValueError):
                with self.assertRaises(caught):
                    raise getattr(errors, name)(*[7 for _ in arguments])


if __name__ == "__main__":
    unittest.main()

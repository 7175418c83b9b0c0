"""The errors and failures: their places, their attributes, how they are created."""

import inspect
import unittest

from anyshape import errors, failures

ERRORS = {
    "InvalidName": "value", "InvalidNames": "position", "InvalidSize": "value", "InvalidSizes": "position",
    "InvalidCount": "value", "InvalidNumber": "value", "InvalidNumbers": "value", "InvalidPoint": "value",
    "InvalidPoints": "position", "InvalidText": "line", "InvalidFacts": "position", "InvalidGoal": "value",
    "InvalidCone": "value", "InvalidInputs": "position", "InvalidLine": "position", "InvalidProgram": "value",
    "InvalidTerm": "value", "InvalidTerms": "position", "InvalidWord": "value", "InvalidPosition": "value",
    "InvalidPositions": "value", "InvalidIndex": "value", "InvalidContents": "name", "InvalidMeanings": "letter",
    "InvalidDigits": "position", "OtherInputs": "position", "InvalidAnswer": "value", "InvalidQuestion": "value",
    "InvalidCommand": "value",
}
FAILURES = {
    "UnknownArray": ("MissingError", ["name"]), "UnknownName": ("MissingError", ["name"]),
    "UnknownFact": ("MissingError", ["value"]), "DoesNotRun": ("StateError", ["line"]),
    "BrokenFact": ("StateError", ["position"]), "NotWhole": ("StateError", ["size"]),
    "CannotCut": ("StateError", ["cut", "other"]), "IsCrossed": ("StateError", ["line", "cut", "other"]),
    "NothingToUndo": ("StateError", []), "CommandFailed": ("StateError", ["position", "results"]),
    "TooMany": ("LimitError", ["kind", "limit"]),
}
BASES = {"MissingError": LookupError, "StateError": RuntimeError, "LimitError": ArithmeticError}
VALUES = [None, 3, "a", {"a": True}, [1, 2], object()]


class TestErrors(unittest.TestCase):

    def check_created(self, kind, attributes):
        for shift in range(len(VALUES)):
            values = {name: VALUES[(shift + at) % len(VALUES)] for at, name in enumerate(attributes)}
            for error in (kind(*values.values()), kind(**values)):
                for name, value in values.items():
                    self.assertIs(getattr(error, name), value)
                self.assertEqual(sorted(vars(error)), sorted(attributes))
                self.assertIsInstance(str(error), str)
                with self.assertRaises(kind):
                    raise error
        self.assertEqual(list(inspect.signature(kind).parameters), attributes)

    def test_each_error_has_its_place_and_its_attribute(self):
        self.assertEqual(errors.AnyshapeError.__bases__, (ValueError,))
        for name, attribute in ERRORS.items():
            kind = getattr(errors, name)
            self.assertEqual(kind.__bases__, (errors.AnyshapeError,), name)
            self.check_created(kind, [attribute])

    def test_each_failure_has_its_place_and_its_attributes(self):
        for name, base in BASES.items():
            self.assertEqual(getattr(failures, name).__bases__, (base,))
        for name, (base, attributes) in FAILURES.items():
            kind = getattr(failures, name)
            self.assertEqual(kind.__bases__, (getattr(failures, base),), name)
            self.check_created(kind, attributes)

    def test_there_are_no_others(self):
        self.assertEqual(classes_of(errors), sorted(list(ERRORS) + ["AnyshapeError"]))
        self.assertEqual(classes_of(failures), sorted(list(FAILURES) + list(BASES)))

    def test_the_bases_can_be_created_with_any_values(self):
        for kind in (errors.AnyshapeError, failures.MissingError, failures.StateError, failures.LimitError):
            for values in ((), (None,), (1, "a"), ([], {})):
                self.assertIsInstance(kind(*values), Exception)

    def test_a_constructor_takes_no_more_and_no_less(self):
        with self.assertRaises(TypeError):
            errors.InvalidName()
        with self.assertRaises(TypeError):
            errors.InvalidName(1, 2)
        with self.assertRaises(TypeError):
            failures.TooMany("facts")


def classes_of(module):
    """The names of the classes that stand in a module."""
    return sorted([name for name, value in vars(module).items() if inspect.isclass(value)])


if __name__ == "__main__":
    unittest.main()

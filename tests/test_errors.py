"""Promise [2], and the entry of missingmiles/errors.py."""

import inspect
import unittest

from missingmiles import errors
from missingmiles.errors import Full, InvalidRatio, InvalidWay, MilesError, Missing, NothingLeft, TooMany, UnknownName
from tests.helpers import ODD_VALUES

MILES = {
    "InvalidRatio": ["given"], "InvalidNumber": ["given"], "InvalidName": ["given"], "DuplicateName": ["name"],
    "InvalidRow": ["at"], "InvalidLayer": ["given"], "InvalidTable": ["layer"],
    "InvalidWay": ["layer", "start", "goal"], "InvalidPlace": ["given"], "InvalidPoint": ["given"],
    "InvalidForm": ["given"], "InvalidStep": ["path"], "UnlikeEnds": ["path"], "InvalidText": ["word"],
    "InvalidFact": ["at"], "UnlikeScripts": [], "UnlikeWorlds": [], "HasTests": [], "NoWorld": [],
    "InvalidCommand": ["at"], "InvalidLimit": ["given"], "Full": ["limit"], "InvalidPage": ["line"],
    "TooMany": ["subject", "most"],
}
MISSING = {"UnknownName": ["name"], "UnknownScript": ["word"]}
ALL = {**MILES, **MISSING, "NothingLeft": []}


def class_of(name):
    return getattr(errors, name)


class Classes(unittest.TestCase):
    def test_direct_bases(self):
        self.assertEqual(MilesError.__bases__, (ValueError,))
        self.assertEqual(Missing.__bases__, (LookupError,))
        self.assertEqual(NothingLeft.__bases__, (IndexError,))
        for name in MILES:
            self.assertEqual(class_of(name).__bases__, (MilesError,), name)
        for name in MISSING:
            self.assertEqual(class_of(name).__bases__, (Missing,), name)

    def test_no_other_errors_are_defined(self):
        found = {name for name, value in vars(errors).items() if inspect.isclass(value)}
        self.assertEqual(found, set(ALL) | {"MilesError", "Missing"})

    def test_defined_in_this_file(self):
        for name in [*ALL, "MilesError", "Missing"]:
            self.assertEqual(class_of(name).__module__, "missingmiles.errors")
            self.assertEqual(class_of(name).__name__, name)

    def test_can_be_caught_by_their_bases(self):
        for base, error in [(ValueError, InvalidRatio(1)), (MilesError, TooMany("names", 5)),
                            (LookupError, UnknownName("a")), (Missing, UnknownName("a")), (IndexError, NothingLeft())]:
            with self.assertRaises(base):
                raise error


class Attributes(unittest.TestCase):
    def test_parameters_are_attributes(self):
        for name, parameters in ALL.items():
            values = [f"value {at}" for at in range(len(parameters))]
            for error in [class_of(name)(*values), class_of(name)(**dict(zip(parameters, values)))]:
                self.assertEqual([getattr(error, parameter) for parameter in parameters], values, name)
                self.assertEqual(set(vars(error)), {*parameters, "code"}, name)

    def test_code_is_the_name_of_the_class(self):
        for name, parameters in ALL.items():
            self.assertEqual(class_of(name)(*[0] * len(parameters)).code, name)

    def test_the_two_bases_have_no_code(self):
        for error in [MilesError("why"), Missing("why"), MilesError(), Missing()]:
            self.assertFalse(hasattr(error, "code"))

    def test_any_values(self):
        for value in [*ODD_VALUES, 10 ** 5000, (10 ** 5000, 3)]:
            for name, parameters in ALL.items():
                error = class_of(name)(*[value] * len(parameters))
                self.assertIsInstance(str(error), str)
                for parameter in parameters:
                    self.assertEqual(getattr(error, parameter), value)
                    self.assertIs(getattr(error, parameter).__class__, value.__class__)

    def test_wrong_numbers_of_arguments(self):
        for name, parameters in ALL.items():
            with self.assertRaises(TypeError):
                class_of(name)(*[0] * (len(parameters) + 1))
            if parameters:
                with self.assertRaises(TypeError):
                    class_of(name)()

    def test_lists_are_copied(self):
        for name, parameters in ALL.items():
            given = [1, [2], ([3],)]
            error = class_of(name)(*[given] * len(parameters))
            given[1].append(4)
            given[2][0].append(5)
            given.append(6)
            for parameter in parameters:
                self.assertEqual(getattr(error, parameter), [1, [2], ([3],)], name)

    def test_several_attributes_do_not_mix(self):
        error = InvalidWay("cart", 1, 2)
        self.assertEqual((error.layer, error.start, error.goal), ("cart", 1, 2))
        error = TooMany("names", 5)
        self.assertEqual((error.subject, error.most), ("names", 5))
        self.assertEqual(Full(limit=3).limit, 3)


if __name__ == "__main__":
    unittest.main()

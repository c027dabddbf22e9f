"""The errors: their constructors, attributes, codes and classes."""

import unittest

from helpers import ANY_VALUES
from unseenslopes import errors
from unseenslopes.ratios import Ratio

SLOPE_ERRORS = {
    "InvalidName": ["given"],
    "InvalidNumber": ["given"],
    "InvalidFact": ["what"],
    "InvalidText": ["at"],
    "WrongKind": ["at"],
    "InvalidBlank": ["at"],
    "NameTaken": ["name"],
    "TooLarge": ["what", "limit"],
    "UnlikeWorlds": [],
    "InvalidWitness": ["name"],
    "InvalidRow": ["index"],
    "NotNow": ["deed"],
    "InvalidPage": ["line"],
}
MISSING = {"UnknownName": ["name"], "NothingLeft": ["deed"]}
ALL = {**SLOPE_ERRORS, **MISSING}


class TestErrors(unittest.TestCase):
    def test_there_are_fifteen(self):
        self.assertEqual(len(ALL), 15)

    def test_direct_bases(self):
        self.assertEqual(errors.SlopeError.__bases__, (ValueError,))
        self.assertEqual(errors.Missing.__bases__, (LookupError,))
        for name in SLOPE_ERRORS:
            self.assertEqual(getattr(errors, name).__bases__, (errors.SlopeError,))
        for name in MISSING:
            self.assertEqual(getattr(errors, name).__bases__, (errors.Missing,))

    def test_no_other_class(self):
        for name in ALL:
            for other in ALL:
                made = getattr(errors, name)(*ALL[name])
                self.assertEqual(isinstance(made, getattr(errors, other)), name == other)
            self.assertEqual(isinstance(made, errors.SlopeError), name in SLOPE_ERRORS)
            self.assertEqual(isinstance(made, errors.Missing), name in MISSING)
            self.assertEqual(isinstance(made, ValueError), name in SLOPE_ERRORS)
            self.assertEqual(isinstance(made, LookupError), name in MISSING)

    def test_made_by_position_and_by_name_with_any_values(self):
        for name, parameters in ALL.items():
            for value in [*ANY_VALUES, Ratio(1, 2), 10 ** 5000]:
                by_position = getattr(errors, name)(*[value for _ in parameters])
                by_name = getattr(errors, name)(**{parameter: value for parameter in parameters})
                for made in (by_position, by_name):
                    self.assertEqual(set(vars(made)), {"code", *parameters})
                    self.assertEqual(made.code, name)
                    for parameter in parameters:
                        self.assertIs(getattr(made, parameter), value)
                    self.assertIsInstance(str(made), str)

    def test_two_parameters_in_their_order(self):
        made = errors.TooLarge("text", 600)
        self.assertEqual((made.what, made.limit), ("text", 600))
        made = errors.TooLarge(limit=600, what="text")
        self.assertEqual((made.what, made.limit), ("text", 600))

    def test_wrong_numbers_of_values(self):
        for name, parameters in ALL.items():
            with self.assertRaises(TypeError):
                getattr(errors, name)(*[1 for _ in parameters], 1)
            if parameters:
                with self.assertRaises(TypeError):
                    getattr(errors, name)()

    def test_the_bases_have_no_code(self):
        self.assertFalse(hasattr(errors.SlopeError("x"), "code"))
        self.assertFalse(hasattr(errors.Missing("x"), "code"))

    def test_raised_and_caught(self):
        for name, parameters in ALL.items():
            with self.assertRaises(ValueError if name in SLOPE_ERRORS else LookupError):
                raise getattr(errors, name)(*parameters)


if __name__ == "__main__":
    unittest.main()

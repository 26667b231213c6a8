"""The error classes: their fields, and the class directly above each."""

import unittest

from whatpasses import errors

WITH_AT = ("BadFamily", "BadCall", "BadTest", "BadPart", "BadSuite", "OtherFamily", "BadDemand", "BadDeed")
MISSING = {"NoClass": "name", "NoCall": "text", "NoTest": "name", "NoCheck": "line"}
VALUES = (0, -1, 7, None, True, "ab", ["a", [1]], ("x", None), 10 ** 40)


def own_classes():
    return {name: thing for name, thing in vars(errors).items() if isinstance(thing, type)}


class ErrorClasses(unittest.TestCase):
    def test_all_are_there_and_no_other(self):
        listed = {"WhatpassesError", "NothingToUndo", "Raised", *WITH_AT, *MISSING}
        self.assertEqual(set(own_classes()), listed)
        for thing in own_classes().values():
            self.assertEqual(thing.__module__, "whatpasses.errors")

    def test_the_class_directly_above(self):
        self.assertEqual(errors.WhatpassesError.__bases__, (ValueError,))
        for name in WITH_AT:
            self.assertEqual(getattr(errors, name).__bases__, (errors.WhatpassesError,), name)
        for name in (*MISSING, "NothingToUndo"):
            self.assertEqual(getattr(errors, name).__bases__, (LookupError,), name)
        self.assertEqual(errors.Raised.__bases__, (RuntimeError,))

    def test_no_error_is_of_another_class_of_the_package(self):
        for name, one in own_classes().items():
            for other_name, other in own_classes().items():
                above = other_name == "WhatpassesError" and name in WITH_AT
                self.assertEqual(issubclass(one, other), name == other_name or above, (name, other_name))


class Fields(unittest.TestCase):
    def test_at(self):
        for name in WITH_AT:
            for value in VALUES:
                self.assertIs(getattr(errors, name)(value).at, value)
                self.assertIs(getattr(errors, name)(at=value).at, value)

    def test_fields_of_what_is_missing(self):
        for name, field in MISSING.items():
            for value in VALUES:
                self.assertIs(getattr(getattr(errors, name)(value), field), value)
                self.assertIs(getattr(getattr(errors, name)(**{field: value}), field), value)

    def test_raised(self):
        for kind in VALUES:
            for cause in VALUES:
                error = errors.Raised(kind, cause)
                self.assertIs(error.kind, kind)
                self.assertIs(error.cause, cause)
        error = errors.Raised(cause="Full", kind="Error")
        self.assertEqual((error.kind, error.cause), ("Error", "Full"))

    def test_the_fields_and_no_other(self):
        for name in WITH_AT:
            self.assertEqual(vars(getattr(errors, name)(1)), {"at": 1})
        for name, field in MISSING.items():
            self.assertEqual(vars(getattr(errors, name)(1)), {field: 1})
        self.assertEqual(vars(errors.NothingToUndo()), {})
        self.assertEqual(vars(errors.Raised("Error", None)), {"kind": "Error", "cause": None})

    def test_the_value_itself_is_kept(self):
        value = ["a"]
        error = errors.NoTest(value)
        value.append("b")
        self.assertIs(error.name, value)
        self.assertEqual(error.name, ["a", "b"])

    def test_a_wrong_number_of_values(self):
        for name in (*WITH_AT, *MISSING):
            with self.assertRaises(TypeError):
                getattr(errors, name)()
            with self.assertRaises(TypeError):
                getattr(errors, name)(1, 2)
        with self.assertRaises(TypeError):
            errors.Raised("Error")

    def test_they_can_be_raised_and_shown(self):
        for name in (*WITH_AT, *MISSING):
            for value in VALUES:
                with self.assertRaises(getattr(errors, name)) as caught:
                    raise getattr(errors, name)(value)
                self.assertIsInstance(str(caught.exception), str)
        with self.assertRaises(LookupError):
            raise errors.NothingToUndo()


if __name__ == "__main__":
    unittest.main()

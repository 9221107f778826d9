"""The errors: promise [3], and the list of the interface."""

import unittest

from helpers import ALL_ERRORS, FIELDLESS, FIELDS, check_kinds, no_integers

from whoselines import errors


class Errors(unittest.TestCase):
    def test_base(self):
        self.assertEqual(errors.LineError.__bases__, (ValueError,))
        error = errors.LineError("what is wrong")
        self.assertEqual(str(error), "what is wrong")
        self.assertEqual(error.args, ("what is wrong",))

    def test_each_is_a_direct_subclass(self):
        for name in ALL_ERRORS:
            self.assertEqual(getattr(errors, name).__bases__, (errors.LineError,), name)
            self.assertEqual(getattr(errors, name).__name__, name)
            self.assertEqual(getattr(errors, name).__module__, "whoselines.errors")

    def test_there_are_no_others(self):
        found = [
            name for name, thing in vars(errors).items()
            if isinstance(thing, type) and thing is not errors.LineError
        ]
        self.assertEqual(sorted(found), sorted(ALL_ERRORS))

    def test_without_fields_one_string(self):
        for name in FIELDLESS:
            error = getattr(errors, name)("why it is wrong")
            self.assertEqual(str(error), "why it is wrong")
            check_kinds(self, name, error)

    def test_fields_by_position(self):
        for name, field in FIELDS.items():
            error = getattr(errors, name)(7)
            self.assertEqual(getattr(error, field), 7)
            self.assertEqual(vars(error), {field: 7})
            check_kinds(self, name, error)
            self.assertIsInstance(str(error), str)

    def test_fields_by_name(self):
        for name, field in FIELDS.items():
            error = getattr(errors, name)(**{field: 7})
            self.assertEqual(getattr(error, field), 7)

    def test_fields_are_any_value(self):
        for name, field in FIELDS.items():
            for value in no_integers() + [-1, 10 ** 5000, "x" * 6000]:
                error = getattr(errors, name)(value)
                self.assertIs(getattr(error, field), value)
                self.assertIsInstance(str(error), str)

    def test_raised_and_caught(self):
        for name in ALL_ERRORS:
            kind = getattr(errors, name)
            for caught in (kind, errors.LineError, ValueError):
                with self.assertRaises(caught):
                    raise kind("x")


if __name__ == "__main__":
    unittest.main()

"""[2]: the errors of the interface."""

import unittest

from maskedlevels import errors
from tests.values import odd_values

FIELDS = {
    "BadArgument": "value", "BadProgram": "part", "BadProcedure": "value", "BadPoint": "value", "BadLine": "value",
    "BadStore": "value", "BadMask": "value", "BadGuards": "value", "BadMove": "value", "BadScript": "at",
    "BadNumber": "value", "BadCell": "value", "BadSection": "value", "BadChange": "value", "BadWish": "value",
    "BadText": "at", "TooMany": "number", "Broken": "claim", "NoRow": "row",
}
BARE = ("AtRest", "NothingLeft")


class ErrorsTest(unittest.TestCase):
    def test_level_error_is_directly_an_exception(self):
        self.assertEqual(errors.LevelError.__bases__, (Exception,))

    def test_each_is_directly_a_level_error_and_none_of_the_others(self):
        for name in [*FIELDS, *BARE]:
            with self.subTest(name=name):
                self.assertEqual(getattr(errors, name).__bases__, (errors.LevelError,))
        for name in [*FIELDS, *BARE]:
            for other in [*FIELDS, *BARE]:
                same = issubclass(getattr(errors, name), getattr(errors, other))
                self.assertEqual(same, name == other, (name, other))

    def test_each_keeps_its_field_as_it_is(self):
        for name, field in FIELDS.items():
            kind = getattr(errors, name)
            for value in odd_values():
                with self.subTest(name=name):
                    self.assertIs(getattr(kind(value), field), value)
                    self.assertIs(getattr(kind(**{field: value}), field), value)

    def test_those_without_a_field(self):
        for name in BARE:
            with self.subTest(name=name):
                with self.assertRaises(errors.LevelError):
                    raise getattr(errors, name)()

    def test_they_can_be_raised_and_caught(self):
        for name, field in FIELDS.items():
            with self.subTest(name=name):
                with self.assertRaises(errors.LevelError) as caught:
                    raise getattr(errors, name)(3)
                self.assertIs(type(caught.exception), getattr(errors, name))
                self.assertEqual(getattr(caught.exception, field), 3)


if __name__ == "__main__":
    unittest.main()

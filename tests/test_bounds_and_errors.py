"""[A3]: the bounds, and the errors with their fields."""

import unittest

from doubtbooks import bounds, errors
from tests.helping import any_values

FIELDS = {"BadProtocol": "error", "BadText": "line", "BadLog": "line", "Refused": "deed", "TooMany": "limit"}


class BoundsTest(unittest.TestCase):

    def test_values(self):
        told = {name: worth for name, worth in vars(bounds).items() if name.isupper()}
        self.assertEqual(told, {
            "MAX_PARTICIPANTS": 6, "MAX_DEEDS": 400, "MAX_COME": 3000, "MAX_NODES": 8, "MAX_PRICE": 10 ** 6,
            "MAX_TRANSACTIONS": 40, "MAX_NAME": 20, "MAX_SITE_ROWS": 200})


class ErrorsTest(unittest.TestCase):

    def test_bases(self):
        self.assertEqual(errors.DoubtError.__bases__, (ValueError,))
        for name in ("Unfit", *FIELDS):
            self.assertEqual(getattr(errors, name).__bases__, (errors.DoubtError,), name)

    def test_nothing_else(self):
        classes = {name for name, worth in vars(errors).items() if isinstance(worth, type)}
        self.assertEqual(classes, {"DoubtError", "Unfit", *FIELDS})

    def test_unfit_has_no_fields(self):
        self.assertEqual(vars(errors.Unfit()), {})
        with self.assertRaises(TypeError):
            errors.BadText()

    def test_fields_are_kept_as_passed(self):
        for name, field in FIELDS.items():
            for value in any_values():
                made = getattr(errors, name)
                by_place, by_name = made(value), made(**{field: value})
                self.assertIs(getattr(by_place, field), value)
                self.assertIs(getattr(by_name, field), value)
                self.assertEqual(list(vars(by_place)), [field])

    def test_they_can_be_raised_and_shown(self):
        for name, field in FIELDS.items():
            for value in (None, ("yes", 0), [1], {"a": 1}):
                with self.assertRaises(ValueError) as caught:
                    raise getattr(errors, name)(value)
                self.assertIsInstance(str(caught.exception), str)
                self.assertIsInstance(repr(caught.exception), str)


if __name__ == "__main__":
    unittest.main()

"""Point [2]: the error classes."""

import inspect
import unittest

from seriessquares import errors

FIELDS = {
    "NoRatio": "word", "NoField": None, "NoNumber": None, "NoPoly": "place", "OtherField": None,
    "NoSeries": "place", "NoCount": None, "NoFraction": "word", "NoCell": "word", "NotKnown": "known",
    "NoQuotients": "place", "NoPoints": "place", "NoImage": "word", "NoReduction": "place", "NoText": "word",
    "Full": None, "NoBack": None, "NoLine": None, "NoLines": "place", "NoUndo": None, "NoRedo": None,
}


def made(name):
    """An error of the class of this name."""
    if FIELDS[name] is None:
        return getattr(errors, name)()
    return getattr(errors, name)(5)


class ErrorsTest(unittest.TestCase):

    def test_the_module_defines_just_the_listed_classes(self):
        defined = [name for name, _ in inspect.getmembers(errors, inspect.isclass)]
        self.assertEqual(sorted(defined), sorted([*FIELDS, "SeriesError"]))
        for name in defined:
            self.assertEqual(getattr(errors, name).__module__, "seriessquares.errors", name)

    def test_series_error_derives_from_value_error(self):
        self.assertEqual(errors.SeriesError.__bases__, (ValueError,))

    def test_each_error_derives_directly_from_series_error(self):
        for name in FIELDS:
            with self.subTest(name):
                self.assertEqual(getattr(errors, name).__bases__, (errors.SeriesError,))
                self.assertIsInstance(made(name), errors.SeriesError)
                self.assertIsInstance(made(name), ValueError)

    def test_each_error_can_be_raised_and_caught_by_its_bases(self):
        for name in FIELDS:
            for caught in (getattr(errors, name), errors.SeriesError, ValueError):
                with self.subTest(name), self.assertRaises(caught):
                    raise made(name)

    def test_each_class_defines_told_itself(self):
        for name in [*FIELDS, "SeriesError"]:
            self.assertIn("told", vars(getattr(errors, name)), name)

    def test_told_is_refused_and_the_name_in_lowercase(self):
        self.assertEqual(errors.SeriesError().told(), "refused serieserror")
        self.assertEqual(errors.NoCell("m").told(), "refused nocell")
        for name in FIELDS:
            self.assertEqual(made(name).told(), "refused " + name.lower())

    def test_each_error_keeps_its_field(self):
        for name, field in FIELDS.items():
            if field is None:
                continue
            for value in ("top", "zero", -1, 0, 31):
                with self.subTest(name, value=value):
                    by_position = getattr(errors, name)(value)
                    by_name = getattr(errors, name)(**{field: value})
                    self.assertEqual(vars(by_position), {field: value})
                    self.assertEqual(vars(by_name), {field: value})

    def test_the_others_have_no_field(self):
        for name, field in FIELDS.items():
            if field is None:
                self.assertEqual(vars(made(name)), {}, name)


if __name__ == "__main__":
    unittest.main()

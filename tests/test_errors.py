"""whosefirst/errors.py: every error class of the package."""

import unittest

from whosefirst import errors

PART = ["BadRatio", "BadStep", "BadSpan", "BadBook", "BadPace", "BadRow", "BadSaying", "BadOrder", "BadRider", "BadStory",
        "BadTable", "BadEye", "BadWeave", "BadReport", "BadTour", "BadNumber", "BadPaper", "BadDesk"]
FIELDS = {name: ["part"] for name in PART}
FIELDS.update({name: ["name"] for name in ("Missing", "NoHappening", "NoTraveller", "Twice")})
FIELDS.update({"Unlike": ["what"], "SameSpot": ["one", "other"], "Impossible": ["paper"], "TooMany": ["what", "most"],
               "Nothing": [], "BadText": ["line", "word"], "BadLine": ["line", "error"]})


class Errors(unittest.TestCase):

    def test_first_error_is_directly_below_value_error(self):
        self.assertEqual(errors.FirstError.__bases__, (ValueError,))

    def test_each_is_directly_below_first_error_but_two(self):
        for name in FIELDS:
            with self.subTest(name=name):
                above = errors.Missing if name in ("NoHappening", "NoTraveller") else errors.FirstError
                self.assertEqual(getattr(errors, name).__bases__, (above,))

    def test_there_are_no_others(self):
        classes = [name for name, value in vars(errors).items() if isinstance(value, type)]
        self.assertEqual(sorted(classes), sorted([*FIELDS, "FirstError"]))
        for name in classes:
            self.assertEqual(getattr(errors, name).__module__, "whosefirst.errors")

    def test_fields_by_place_are_kept_as_they_are(self):
        for name, fields in FIELDS.items():
            for value in (None, True, 0, "a", [1], {"a": [2]}, object(), ValueError("x")):
                with self.subTest(name=name):
                    values = [(value, at) for at in range(len(fields))]
                    error = getattr(errors, name)(*values)
                    self.assertEqual(vars(error), dict(zip(fields, values)))
                    self.assertTrue(all(getattr(error, field) is kept for field, kept in zip(fields, values)))

    def test_fields_by_name(self):
        for name, fields in FIELDS.items():
            with self.subTest(name=name):
                error = getattr(errors, name)(**{field: [field] for field in reversed(fields)})
                self.assertEqual(vars(error), {field: [field] for field in fields})

    def test_fields_must_all_be_told(self):
        for name, fields in FIELDS.items():
            with self.subTest(name=name):
                with self.assertRaises(TypeError):
                    getattr(errors, name)(**{field: 1 for field in fields}, more=1)
                if fields:
                    with self.assertRaises(TypeError):
                        getattr(errors, name)()

    def test_they_are_raised_and_caught(self):
        with self.assertRaises(ValueError):
            raise errors.SameSpot("a", "b")
        with self.assertRaises(errors.Missing):
            raise errors.NoTraveller("a")
        self.assertFalse(issubclass(errors.NoTraveller, errors.NoHappening))
        self.assertFalse(issubclass(errors.NoHappening, (KeyError, LookupError, TypeError)))

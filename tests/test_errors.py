"""The refusals: their bases and their fields."""

import unittest

from rightage import errors

AGE_ERRORS = {
    "BadWorld": ("path", "word"), "BadPaper": ("number", "word"), "BadWish": ("item", "word"),
    "BadNames": (), "Unlike": (), "Clash": ("kind",), "Full": (), "NotNarrow": (),
    "TooMany": ("bound",), "Long": (), "Busy": (), "NothingBack": (), "NoDeed": ("number",),
    "NoText": ("line",), "NoNumber": (),
}
LOOKUP_ERRORS = {
    "NoKind": ("kind",), "NoSource": ("number",), "NoWay": ("number",), "NoPart": ("part",),
    "NoBringing": ("source", "moment"),
}
HANDED = (((2, 0), "kind"), (-1, "paper"), (None, ""), ([1, [2]], {"a": ()}), (True, 10 ** 29))


class TestErrors(unittest.TestCase):
    def classes(self):
        return [getattr(errors, name) for name in list(AGE_ERRORS) + list(LOOKUP_ERRORS)]

    def test_age_error_is_a_value_error(self):
        self.assertTrue(issubclass(errors.AgeError, ValueError))
        self.assertFalse(issubclass(errors.AgeError, LookupError))

    def test_refusals_over_which_age_error_stands(self):
        for name in AGE_ERRORS:
            with self.subTest(name):
                self.assertTrue(issubclass(getattr(errors, name), errors.AgeError))
                self.assertFalse(issubclass(getattr(errors, name), LookupError))

    def test_lookup_errors_are_no_value_errors(self):
        for name in LOOKUP_ERRORS:
            with self.subTest(name):
                self.assertTrue(issubclass(getattr(errors, name), LookupError))
                self.assertFalse(issubclass(getattr(errors, name), ValueError))

    def test_none_stands_under_another_one(self):
        for one in self.classes():
            for other in self.classes():
                self.assertEqual(issubclass(one, other), one is other, (one, other))
            self.assertFalse(issubclass(one, (KeyError, IndexError)))

    def test_fields_are_as_handed_in(self):
        for name, fields in {**AGE_ERRORS, **LOOKUP_ERRORS}.items():
            for handed in HANDED:
                with self.subTest(name, handed=handed):
                    error = getattr(errors, name)(*handed[:len(fields)])
                    self.assertEqual(vars(error), dict(zip(fields, handed)))
                    for field, value in zip(fields, handed):
                        self.assertIs(getattr(error, field), value)

    def test_a_field_that_lacks_or_is_too_many(self):
        for name, fields in {**AGE_ERRORS, **LOOKUP_ERRORS}.items():
            if fields:
                with self.subTest(name):
                    self.assertRaises(TypeError, getattr(errors, name), *fields[1:])
                    self.assertRaises(TypeError, getattr(errors, name), *fields, "more")

    def test_raised_and_caught_by_name(self):
        with self.assertRaises(errors.BadWorld) as caught:
            raise errors.BadWorld((2, 0, 1), "age")
        self.assertEqual((caught.exception.path, caught.exception.word), ((2, 0, 1), "age"))
        with self.assertRaises(errors.Busy):
            raise errors.Busy()

    def test_defined_here(self):
        for one in self.classes() + [errors.AgeError]:
            self.assertEqual(one.__module__, "rightage.errors")


if __name__ == "__main__":
    unittest.main()

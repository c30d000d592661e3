"""Point 5: the errors and their fields."""

import unittest

from levelcolumns import errors

OF_ONE_STRING = ["InvalidLeaf", "InvalidNode", "InvalidNeeded", "InvalidLengths", "InvalidTest", "InvalidAsk",
                 "InvalidMask", "InvalidPath", "InvalidPart", "InvalidField", "InvalidPage", "InvalidNumber",
                 "TooLarge", "NothingToUndo"]

WITH_FIELDS = {"InvalidText": ["place"], "InvalidTable": ["index"], "NotEnough": ["node"],
               "InvalidColumns": ["leaf", "entry"], "NotFitting": ["leaf", "entry"], "NotSingle": ["leaf", "entry"]}


def made_errors():
    made = [getattr(errors, name)("told") for name in OF_ONE_STRING]
    return made + [getattr(errors, name)(*range(len(fields))) for name, fields in WITH_FIELDS.items()]


class Errors(unittest.TestCase):

    def test_there_are_just_these_classes(self):
        classes = [name for name, value in vars(errors).items() if isinstance(value, type)]
        self.assertEqual(sorted(classes), sorted(["ColumnError"] + OF_ONE_STRING + list(WITH_FIELDS)))
        self.assertEqual(len(OF_ONE_STRING) + len(WITH_FIELDS), 20)

    def test_they_are_defined_in_this_file(self):
        for name in ["ColumnError"] + OF_ONE_STRING + list(WITH_FIELDS):
            self.assertEqual(getattr(errors, name).__module__, "levelcolumns.errors")

    def test_each_is_a_direct_subclass(self):
        self.assertEqual(errors.ColumnError.__bases__, (ValueError,))
        for name in OF_ONE_STRING + list(WITH_FIELDS):
            self.assertEqual(getattr(errors, name).__bases__, (errors.ColumnError,))

    def test_an_error_is_of_no_other_class(self):
        for made in made_errors():
            self.assertIsInstance(made, ValueError)
            self.assertIsInstance(made, errors.ColumnError)
            for name in OF_ONE_STRING + list(WITH_FIELDS):
                self.assertEqual(isinstance(made, getattr(errors, name)), type(made).__name__ == name)

    def test_one_string_is_kept(self):
        for name in ["ColumnError"] + OF_ONE_STRING:
            self.assertEqual(str(getattr(errors, name)("what is wrong")), "what is wrong")

    def test_fields_by_position(self):
        for name, fields in WITH_FIELDS.items():
            for first in (0, -1, 10 ** 59):
                values = [first, 7][:len(fields)]
                made = getattr(errors, name)(*values)
                self.assertEqual([getattr(made, field) for field in fields], values)

    def test_fields_by_name(self):
        for name, fields in WITH_FIELDS.items():
            values = dict(zip(fields, (-1, 5)))
            made = getattr(errors, name)(**values)
            self.assertEqual({field: getattr(made, field) for field in fields}, values)
            backwards = getattr(errors, name)(**dict(reversed(list(values.items()))))
            self.assertEqual({field: getattr(backwards, field) for field in fields}, values)

    def test_fields_want_as_many_arguments(self):
        for name, fields in WITH_FIELDS.items():
            with self.assertRaises(TypeError):
                getattr(errors, name)()
            with self.assertRaises(TypeError):
                getattr(errors, name)(*([1] * (len(fields) + 1)))

    def test_errors_are_raised_and_caught_by_name(self):
        for made in made_errors():
            with self.assertRaises(type(made)) as caught:
                raise made
            self.assertIs(caught.exception, made)


if __name__ == "__main__":
    unittest.main()

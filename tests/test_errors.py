"""The errors of the interface: bases, fields and their order."""

import unittest

from mergelevels import errors

FIELDS = {
    "InvalidTable": ("path", "reason"),
    "SameItem": ("item",),
    "UnknownLimit": ("name",),
    "NotSpanning": (),
    "UnequalSizes": ("index",),
    "InvalidLevels": ("levels",),
    "Contradictory": ("one", "other"),
    "InvalidLevel": ("level",),
    "TooMany": (),
    "InvalidRow": ("row",),
    "LastItem": (),
    "NoItems": (),
    "RepeatedItem": ("item",),
    "TooLow": ("least",),
    "InvalidCount": ("count",),
    "Unlike": ("one", "other"),
    "InvalidOrder": ("order",),
    "TooManyActions": (),
    "Busy": (),
    "NothingToUndo": (),
    "InvalidBatch": (),
    "BatchFailed": ("index",),
    "NotNested": ("three",),
    "ParseError": ("place",),
    "NoSuchItem": ("item",),
    "NoSuchStep": ("step",),
}
LOOKUPS = ("NoSuchItem", "NoSuchStep")


class TestErrors(unittest.TestCase):
    def test_bases(self):
        self.assertEqual(errors.MergeError.__bases__, (ValueError,))
        for name in FIELDS:
            with self.subTest(name=name):
                base = LookupError if name in LOOKUPS else errors.MergeError
                self.assertEqual(getattr(errors, name).__bases__, (base,))

    def test_fields_are_stored_unchanged_in_their_order(self):
        for values in ([[1], {"a": []}], [None, True], ["x", (1, [2])], [10 ** 30, ""]):
            for name, fields in FIELDS.items():
                with self.subTest(name=name):
                    given = values[:len(fields)]
                    error = getattr(errors, name)(*given)
                    for field, value in zip(fields, given):
                        self.assertIs(getattr(error, field), value)
                    self.assertEqual(set(vars(error)), set(fields))
                    self.assertIsInstance(str(error), str)

    def test_fields_are_needed(self):
        for name, fields in FIELDS.items():
            if fields:
                with self.subTest(name=name):
                    self.assertRaises(TypeError, getattr(errors, name), *fields[1:])
                    self.assertRaises(TypeError, getattr(errors, name), *fields, "more")

    def test_arguments_are_not_modified(self):
        value = [1, [2]]
        errors.InvalidRow(value)
        self.assertEqual(value, [1, [2]])

    def test_lookups_are_no_merge_errors(self):
        for name in LOOKUPS:
            self.assertFalse(issubclass(getattr(errors, name), ValueError))


if __name__ == "__main__":
    unittest.main()

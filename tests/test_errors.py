"""[19]: the error classes of keyspans/errors.py."""

import unittest

from keyspans import errors

LOOKUP = {
    "NoName": ("name",), "NoPlace": ("place",), "NoPart": ("part",), "NoRecord": ("number",),
    "NoService": ("name",), "NoLimit": ("name",),
}
VALUE = {
    "BadField": ("field",), "BadLine": ("number",), "BadTurns": ("place",), "BadRun": ("place",), "BadView": (),
    "BadLog": ("place",), "BadOrder": (), "Ringed": ("ring",), "MixedKeys": (), "Doubled": ("number",),
    "Unlawful": ("first", "second", "name"), "Descending": ("number",), "NotWithin": (),
    "NoLeast": ("first", "second"), "NoOrder": ("ring",), "Unused": ("service", "target"), "NoFit": (),
    "NoForm": (), "MissingPart": ("part",), "TooManyLevels": ("many",), "Outside": ("name",), "Taken": ("name",),
    "Stopped": ("number", "word", "value"),
}


class ErrorsTest(unittest.TestCase):

    def test_each_stands_directly_under_its_builtin_class(self):
        for base, names in ((LookupError, LOOKUP), (ValueError, VALUE)):
            for name in names:
                with self.subTest(name):
                    self.assertEqual(getattr(errors, name).__bases__, (base,))
                    self.assertEqual(getattr(errors, name).__module__, "keyspans.errors")

    def test_each_keeps_its_values_by_position_and_by_name(self):
        for name, attributes in {**LOOKUP, **VALUE}.items():
            worths = [("worth", at) for at in range(len(attributes))]
            made = getattr(errors, name)
            for error in (made(*worths), made(**dict(zip(attributes, worths)))):
                with self.subTest(name):
                    self.assertEqual([getattr(error, attribute) for attribute in attributes], worths)

    def test_none_takes_more_or_fewer_values(self):
        for name, attributes in {**LOOKUP, **VALUE}.items():
            with self.subTest(name):
                with self.assertRaises(TypeError):
                    getattr(errors, name)(*range(len(attributes) + 1))
                if attributes:
                    with self.assertRaises(TypeError):
                        getattr(errors, name)(*range(len(attributes) - 1))

    def test_there_are_no_others(self):
        found = [name for name, thing in vars(errors).items() if isinstance(thing, type)]
        self.assertEqual(sorted(found), sorted({**LOOKUP, **VALUE}))


if __name__ == "__main__":
    unittest.main()

"""Point 4: the errors."""

import unittest

from stylepages import errors

WITHOUT = ("BadDocument", "BadPath", "TooLarge", "UnevenFigures", "NothingToUndo", "NothingToRedo")
WITH = {
    "BadRule": ("line",),
    "BadEdit": ("line",),
    "OpenOutline": ("place",),
    "MissingLetter": ("char",),
    "BadLetter": ("char",),
    "NoLetter": ("char",),
    "BadSetting": ("name",),
    "Blocked": ("start", "end"),
    "NoPages": ("lines",),
    "NoAssignment": ("tried",),
    "Refused": ("index",),
}


class ErrorsTest(unittest.TestCase):
    def test_style_error_is_a_value_error(self):
        self.assertEqual(errors.StyleError.__bases__, (ValueError,))

    def test_each_class_is_directly_under_style_error(self):
        for name in list(WITHOUT) + list(WITH):
            self.assertEqual(getattr(errors, name).__bases__, (errors.StyleError,), name)

    def test_no_class_is_under_another_one(self):
        classes = [getattr(errors, name) for name in list(WITHOUT) + list(WITH)]
        for one in classes:
            for other in classes:
                self.assertEqual(issubclass(one, other), one is other)

    def test_classes_without_attributes(self):
        for name in WITHOUT:
            with self.assertRaises(errors.StyleError):
                raise getattr(errors, name)()

    def test_attributes_by_position(self):
        for name, attributes in WITH.items():
            values = [("worth", k) for k in range(len(attributes))]
            error = getattr(errors, name)(*values)
            self.assertIsInstance(error, ValueError)
            self.assertEqual([getattr(error, attribute) for attribute in attributes], values)


if __name__ == "__main__":
    unittest.main()

import unittest

from fourtouch import errors

PLAIN = ("InvalidCircle", "InvalidFour", "InvalidWord", "InvalidQuestion", "NothingToUndo", "NothingToRedo")
WITH_ATTRIBUTE = {
    "UnknownName": "name",
    "InvalidNotation": "line",
    "InvalidPaper": "line",
    "TooMany": "limit",
    "NotThere": "step",
    "NameInUse": "name",
}


class ErrorClasses(unittest.TestCase):
    def test_base_is_a_value_error(self):
        self.assertEqual(errors.FourtouchError.__bases__, (ValueError,))

    def test_all_derive_from_the_base(self):
        for name in PLAIN + tuple(WITH_ATTRIBUTE):
            self.assertEqual(getattr(errors, name).__bases__, (errors.FourtouchError,), name)

    def test_attributes(self):
        for name, attribute in WITH_ATTRIBUTE.items():
            for value in ("abc", 7):
                error = getattr(errors, name)(value)
                self.assertEqual(vars(error), {attribute: value}, name)

    def test_a_great_limit_can_be_told(self):
        limit = 10 ** 9999
        error = errors.TooMany(limit)
        self.assertEqual(error.limit, limit)
        self.assertIsInstance(str(error), str)

    def test_classes_are_apart(self):
        for name in PLAIN + tuple(WITH_ATTRIBUTE):
            for other in PLAIN + tuple(WITH_ATTRIBUTE):
                if name != other:
                    self.assertFalse(issubclass(getattr(errors, name), getattr(errors, other)))


if __name__ == "__main__":
    unittest.main()

import unittest

from tablemanners import errors


class Errors(unittest.TestCase):
    def test_the_base(self):
        self.assertEqual(errors.MannerError.__bases__, (ValueError,))

    def test_each_stands_straight_under_the_base(self):
        for name in ("BadManner", "BadText", "BadTable", "BadWide", "TooMany", "Unread", "Unwritable"):
            with self.subTest(name=name):
                self.assertEqual(getattr(errors, name).__bases__, (errors.MannerError,))

    def test_each_is_a_class_of_its_own(self):
        with self.assertRaises(errors.BadText):
            try:
                raise errors.BadText("no text")
            except errors.BadManner:
                self.fail("a BadText is no BadManner")


if __name__ == "__main__":
    unittest.main()

import unittest

from peekproof.checks import is_integer, is_label, is_name, is_within
from peekproof.ratios import Ratio
from tests.support import ANY_VALUES


class ChecksTest(unittest.TestCase):
    def test_integers(self):
        for value in (0, 1, -1, 10 ** 100):
            self.assertIs(is_integer(value), True)
        for value in (True, False, None, 1.0, "1", Ratio(1), [1]):
            self.assertIs(is_integer(value), False)

    def test_within(self):
        self.assertEqual([value for value in range(-3, 9) if is_within(value, 0, 5)], [0, 1, 2, 3, 4, 5])
        self.assertIs(is_within(-10 ** 50, None, 3), True)
        self.assertIs(is_within(4, None, 3), False)
        self.assertIs(is_within(10 ** 50, 3, None), True)
        self.assertIs(is_within(2, 3, None), False)
        self.assertIs(is_within(5, None, None), True)
        self.assertIs(is_within(1, 2, 0), False)
        for value in (True, False, None, 1.0, "1", Ratio(1), [1]):
            self.assertIs(is_within(value, None, None), False)

    def test_names(self):
        for value in ("a", "z9", "abc", "a" * 12, "a00000000000", "lit"):
            self.assertIs(is_name(value), True, value)
        for value in ("", "A", "aB", "9a", "a" * 13, "a.b", "a b", "a_b", "a-", " a", "a ", "a\n", "\u00e4", "a\u00b2",
                      "a\u0663", ".", "a."):
            self.assertIs(is_name(value), False, value)

    def test_labels(self):
        for value in ("a", "a.b", "a1.b2", ".".join("abcdef"), ".".join(["a" * 12] * 6)):
            self.assertIs(is_label(value), True, value)
        for value in ("", ".", "a.", ".a", "a..b", ".".join("abcdefg"), "a.B", "a.9", "a. b", "a.b\n", "a" * 13,
                      "a." + "b" * 13):
            self.assertIs(is_label(value), False, value)

    def test_any_values(self):
        for value in ANY_VALUES:
            self.assertIs(is_name(value), value == "x" and isinstance(value, str))
            self.assertIs(is_label(value), value == "x" and isinstance(value, str))
            self.assertIs(is_integer(value), type(value) is int)
            self.assertIs(is_within(value, 0, 1), type(value) is int and value >= 0)


if __name__ == "__main__":
    unittest.main()

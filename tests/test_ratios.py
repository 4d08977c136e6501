import unittest
from fractions import Fraction

from peekproof.errors import BadRatio, BadText
from peekproof.ratios import Ratio, added, greatest_of, least_of
from tests.support import ANY_VALUES, Case, rng_of

NO_INTEGERS = [value for value in ANY_VALUES if type(value) is not int]
NO_RATIOS = [value for value in NO_INTEGERS if not isinstance(value, Ratio)]


def fraction(ratio):
    return Fraction(ratio.top, ratio.bottom)


class RatioTest(Case):
    def test_lowest_terms(self):
        for top, bottom, told in ((4, 2, (2, 1)), (0, 5, (0, 1)), (0, -5, (0, 1)), (-3, 2, (-3, 2)), (3, -2, (-3, 2)),
                                  (-6, -4, (3, 2)), (7, 1, (7, 1)), (10 ** 80, 10 ** 79, (10, 1))):
            ratio = Ratio(top, bottom)
            self.assertEqual((ratio.top, ratio.bottom), told)
        self.assertEqual((Ratio(5).top, Ratio(5).bottom), (5, 1))
        self.assertEqual(Ratio(bottom=4, top=2), Ratio(1, 2))
        self.assertEqual(Ratio.MOST_DIGITS, 60)

    def test_bad_parts(self):
        for value in NO_INTEGERS:
            self.refused(BadRatio, {"part": "top"}, Ratio, value)
            self.refused(BadRatio, {"part": "top"}, Ratio, value, 0)
            self.refused(BadRatio, {"part": "bottom"}, Ratio, 1, value)
        self.refused(BadRatio, {"part": "bottom"}, Ratio, 1, 0)

    def test_sign_and_whole(self):
        self.assertEqual([Ratio(n, 3).sign for n in (-2, 0, 2)], [-1, 0, 1])
        self.assertEqual([type(Ratio(n, 3).sign) for n in (-2, 0, 2)], [int] * 3)
        self.assertEqual([Ratio(n, 3).is_whole for n in (-3, 0, 2)], [True, True, False])

    def test_arithmetic_of_drawn_ratios(self):
        rng = rng_of(1)
        for _ in range(300):
            one = Ratio(rng.randint(-9, 9), rng.randint(1, 9))
            other = rng.choice([Ratio(rng.randint(-9, 9), rng.randint(1, 9)), rng.randint(-3, 3)])
            here, there = fraction(one), Fraction(other) if isinstance(other, int) else fraction(other)
            results = [(one + other, here + there), (one - other, here - there), (one * other, here * there),
                       (-one, -here), (abs(one), abs(here))]
            if there:
                results.append((one.over(other), here / there))
            for found, told in results:
                self.assertIsInstance(found, Ratio)
                self.assertEqual((found.top, found.bottom), (told.numerator, told.denominator))
            self.assertEqual(one.compared(other), (here > there) - (here < there))
            self.assertIs(one.is_below(other), here < there)
            self.assertIs(one == other, here == there)
            self.assertIs(one != other, here != there)
            self.assertIs(bool(one), bool(here))
            self.assertEqual(str(one), str(here))
            self.assertEqual(repr(one), str(here))
            self.assertEqual(Ratio.read(str(one)), one)

    def test_bad_others(self):
        one = Ratio(1, 2)
        for value in NO_RATIOS:
            for call in (lambda x: one + x, lambda x: one - x, lambda x: one * x, one.over, one.compared, one.is_below):
                self.refused(BadRatio, {"part": "other"}, call, value)
        for zero in (0, Ratio(0)):
            self.refused(BadRatio, {"part": "zero"}, one.over, zero)

    def test_no_order_and_no_operator_at_the_right_of_an_integer(self):
        for call in (lambda: 1 + Ratio(1), lambda: 1 - Ratio(1), lambda: 2 * Ratio(1), lambda: Ratio(1) < Ratio(2)):
            with self.assertRaises(TypeError):
                call()

    def test_equality(self):
        self.assertTrue(Ratio(2) == 2 and 2 == Ratio(2) and Ratio(0) == 0)
        for value in NO_RATIOS:
            self.assertIs(Ratio(1) == value, False)
            self.assertIs(Ratio(0) == value, False)
            self.assertIs(Ratio(1) != value, True)
        self.assertIs(Ratio(1) == True, False)  # noqa: E712
        self.assertIs(Ratio(0) == False, False)  # noqa: E712

    def test_read(self):
        for text in ("0", "3", "-3", "-3/2", "1/2", "10", "9" * 60, "-" + "9" * 60, "1/" + "9" * 60,
                     "7" * 60 + "/" + "1" + "0" * 59):
            self.assertEqual(str(Ratio.read(text)), text)
        for text in ("", "4/2", "0/5", "-0", "+1", "3/1", "1/-2", "1/0", "01", "1/02", "00", "1.5", "1/2/3", "/2", "1/",
                     "-", "--1", "-1/-2", "1e3", "\u0663", "1_0", "9" * 61, "1/" + "9" * 61, "0" * 61, "\t1", "1\n",
                     "\u00b2", "x", "- 1"):
            self.refused_text(0, Ratio.read, text)
        for text in ("1 ", "1 1", "1  ", "1 x"):
            self.refused_text(1, Ratio.read, text)
        self.refused_text(0, Ratio.read, " 1")
        for value in ANY_VALUES:
            self.refused(BadText, {"line": 0, "word": 0}, Ratio.read, value)

    def test_of(self):
        half = Ratio(1, 2)
        self.assertEqual(Ratio.of(half), half)
        self.assertIsInstance(Ratio.of(3), Ratio)
        self.assertEqual(Ratio.of(3), 3)
        for value in NO_RATIOS:
            self.refused(BadRatio, {"part": "value"}, Ratio.of, value)

    def test_sums_and_bounds(self):
        told = [Ratio(1, 2), 3, Ratio(-1, 3)]
        for listed in (told, tuple(told)):
            self.assertEqual(added(listed), Ratio(19, 6))
            self.assertEqual(least_of(listed), Ratio(-1, 3))
            self.assertEqual(greatest_of(listed), 3)
            self.all_ratios([added(listed), least_of(listed), greatest_of(listed)])
        self.all_ratios([added([]), added([1]), least_of([2, 2]), greatest_of((2,))])
        self.assertEqual(added([]), 0)
        for value in ANY_VALUES + ([True], [1, None], [1, "1"], {"a": 1}, {1: 1}, "12", (1, [2])):
            if value in ((), [], [1]):
                continue
            for call in (added, least_of, greatest_of):
                self.refused(BadRatio, {"part": "ratios"}, call, value)
        for empty in ([], ()):
            self.refused(BadRatio, {"part": "ratios"}, least_of, empty)
            self.refused(BadRatio, {"part": "ratios"}, greatest_of, empty)


if __name__ == "__main__":
    unittest.main()

import time
import unittest

from peekproof.allowed import Beyond, Covered, Lean, Mixed, Parted, allowed, covered, leaned
from peekproof.check_allowed import shows_allowed, shows_covered, shows_leaned
from peekproof.crowds import Crowd
from peekproof.errors import BadChances, BadCrowd
from peekproof.papers import Denial, Paper
from peekproof.ratios import Ratio, added
from tests.support import ANY_VALUES, Case, drawn_chances, drawn_crowd, rng_of

COIN = ("hit", "miss")
HALF = Ratio(1, 2)
SIGNS = ("a", "b", "c", "d")


def mean(chances, numbers):
    return added([chance * number for chance, number in zip(chances, numbers)])


def bent_numbers(rng, numbers):
    """The numbers with one changed, left out or put in, or with another kind of value among them."""
    told = list(numbers)
    at = rng.randrange(len(told))
    way = rng.randrange(6)
    if way == 0:
        told[at] = told[at] + Ratio(1, rng.choice([-7, -1, 1, 3]))
    elif way == 1:
        del told[at]
    elif way == 2:
        told.insert(at, Ratio(rng.randint(0, 1)))
    elif way == 3:
        told[at] = rng.choice([None, True, False, "1", [1], 0.5])
    elif way == 4:
        told[at] = -told[at] - 1
    else:
        told = rng.choice([None, 5, "ab", {0: 1}, [], [told]])
    return told


class AllowedTest(Case):
    def test_plain_cases(self):
        crowd = Crowd(COIN, [(Ratio(1, 4), Ratio(3, 4)), (HALF, HALF)])
        shown = allowed(crowd, [Ratio(3, 8), Ratio(5, 8)])
        self.assertEqual(shown, Mixed((HALF, HALF)))
        self.all_ratios(shown.weights)
        self.assertIsInstance(allowed(crowd, (HALF, HALF)), Mixed)
        denial = allowed(crowd, [1, 0])
        self.assertIsInstance(denial, Parted)
        self.all_ratios(denial.factors)
        self.assertTrue(mean((Ratio(1), Ratio(0)), denial.factors).compared(1) > 0)
        self.assertIsInstance(allowed(crowd, [0, 1]), Parted)
        self.assertEqual(allowed(Crowd(["a"], [[1]]), [1]), Mixed((1,)))

    def test_drawn_crowds_and_chances(self):
        rng = rng_of(9)
        mixed = 0
        for _ in range(400):
            signs = SIGNS[:rng.randint(1, 4)]
            crowd = drawn_crowd(rng, signs, rng.randint(1, 6), 3)
            chances = rng.choice([drawn_chances(rng, len(signs), 3), crowd.mixture(drawn_chances(rng, len(crowd)))])
            shown = allowed(crowd, chances)
            self.assertTrue(shows_allowed(crowd, chances, shown))
            self.assertEqual(allowed(crowd, chances), shown)
            if shown:
                mixed += 1
                self.assertEqual(crowd.mixture(shown.weights), tuple(chances))
            else:
                self.assertTrue(mean(chances, shown.factors).compared(1) > 0)
                for corner in crowd:
                    self.assertTrue(mean(corner, shown.factors).compared(1) <= 0)
            kind = shown.__class__
            told = bent_numbers(rng, shown.parts[0])
            wanted = self.is_right(crowd, chances, kind, told)
            self.assertIs(shows_allowed(crowd, chances, kind(told)), wanted)
        self.assertTrue(100 < mixed < 350)

    def is_right(self, crowd, chances, kind, told):
        many = len(crowd) if kind is Mixed else len(crowd.signs)
        if not isinstance(told, list) or len(told) != many:
            return False
        if any(type(item) not in (int, Ratio) or Ratio.of(item).sign < 0 for item in told):
            return False
        if kind is Mixed:
            return added(told) == 1 and crowd.mixture(told) == tuple(chances)
        return mean(chances, told).compared(1) > 0 and all(mean(corner, told).compared(1) <= 0 for corner in crowd)

    def test_large_and_sure_crowds(self):
        rng = rng_of(10)
        for signs, corners, most in ((4, 24, 10 ** 6), (4, 24, 3), (12, 96, 5)):
            crowd = drawn_crowd(rng, [f"n{at}" for at in range(signs)], corners, most)
            start = time.monotonic()
            for _ in range(4):
                chances = drawn_chances(rng, signs, most)
                self.assertTrue(shows_allowed(crowd, chances, allowed(crowd, chances)))
            self.assertTrue(shows_leaned(crowd, leaned(crowd)))
            self.assertTrue(shows_covered(crowd.lean(), crowd, covered(crowd.lean(), crowd)))
            self.assertLess(time.monotonic() - start, 20 if signs == 12 else 2)
        sure = Crowd.all_sure([f"n{at}" for at in range(12)])
        chances = drawn_chances(rng, 12, 99)
        self.assertEqual(allowed(sure, chances), Mixed(chances))
        self.assertTrue(covered(drawn_crowd(rng, sure.signs, 9), sure))
        self.assertEqual(len(leaned(sure).kept), 12)

    def test_errors(self):
        crowd = Crowd(COIN, [(1, 0)])
        for value in ANY_VALUES:
            self.refused(BadCrowd, {"part": "crowd"}, allowed, value, value)
            self.refused(BadChances, {"part": "chances"}, allowed, crowd, value)
            self.refused(BadCrowd, {"part": "crowd"}, shows_allowed, value, value, None)
            self.refused(BadChances, {"part": "chances"}, shows_allowed, crowd, value, None)
        for value in ([1], [1, 0, 0], [HALF, 0], [2, -1], [True, 0], {"hit": 1, "miss": 0}):
            self.refused(BadChances, {"part": "chances"}, allowed, crowd, value)

    def test_any_values_are_no_papers(self):
        crowd = Crowd(COIN, [(1, 0)])
        for value in ANY_VALUES:
            self.assertIs(shows_allowed(crowd, (1, 0), value), False)
            for kind in (Mixed, Parted):
                self.assertIs(shows_allowed(crowd, (1, 0), kind(value)), kind is Mixed and value == [1]
                              and isinstance(value, list))
        self.assertIs(shows_allowed(crowd, (1, 0), Paper("mixed", (1,))), False)
        self.assertIs(shows_allowed(crowd, (0, 1), Denial("parted", (1, 2))), False)
        self.assertIs(shows_allowed(crowd, (0, 1), Parted((1, 2))), True)
        self.assertIs(shows_allowed(crowd, (0, 1), Parted((1, 1))), False)
        self.assertIs(shows_allowed(crowd, (0, 1), Parted((0, Ratio(11, 10)))), True)


class CoveredTest(Case):
    def test_plain_cases(self):
        narrow = Crowd(COIN, [(HALF, HALF), (Ratio(1, 4), Ratio(3, 4))])
        wide = Crowd(COIN, [(0, 1), (Ratio(3, 4), Ratio(1, 4)), (0, 1)])
        self.assertTrue(covered(narrow, wide))
        shown = covered(narrow | wide, narrow)
        self.assertEqual((shown.word, shown.index), ("beyond", 2))
        self.assertTrue(shows_covered(narrow | wide, narrow, shown))
        for index, factors in ((2, (0, Ratio(4, 3))), (3, (2, 0)), (4, [0, Ratio(5, 4)])):
            self.assertTrue(shows_covered(narrow | wide, narrow, Beyond(index, factors)))
        for index in (0, 5, -1, True, None, "2", 1.0, [2]):
            self.assertFalse(shows_covered(narrow | wide, narrow, Beyond(index, (0, Ratio(4, 3)))))

    def test_drawn_crowds(self):
        rng = rng_of(11)
        words = []
        for _ in range(200):
            signs = SIGNS[:rng.randint(1, 4)]
            wide = drawn_crowd(rng, signs, rng.randint(1, 5), 3)
            crowd = rng.choice([drawn_crowd(rng, signs, rng.randint(1, 3), 3), wide.lean(),
                                Crowd(signs, [wide.mixture(drawn_chances(rng, len(wide))) for _ in range(3)])])
            shown = covered(crowd, wide)
            words.append(shown.word)
            self.assertTrue(shows_covered(crowd, wide, shown))
            if shown:
                self.assertEqual(tuple(wide.mixture(line) for line in shown.lines), crowd.corners)
                self.assertFalse(shows_covered(crowd, wide, Covered(shown.lines[1:])))
                self.assertFalse(shows_covered(crowd, wide, Covered(shown.lines + shown.lines[:1])))
                told = bent_numbers(rng, shown.lines[0])
                right = AllowedTest().is_right(wide, crowd.corners[0], Mixed, told)
                self.assertIs(shows_covered(crowd, wide, Covered((told,) + shown.lines[1:])), right)
            else:
                self.assertTrue(all(allowed(wide, corner) for corner in crowd.corners[:shown.index]))
                self.assertFalse(allowed(wide, crowd.corners[shown.index]))
                self.assertEqual(allowed(wide, crowd.corners[shown.index]).factors, shown.factors)
                self.assertFalse(shows_covered(crowd, wide, Beyond(shown.index, [0] * len(signs))))
            self.assertEqual(bool(covered(crowd, wide) and covered(wide, crowd)), crowd == wide)
        self.assertTrue(words.count("beyond") > 30 and words.count("covered") > 30)

    def test_errors_and_any_values(self):
        crowd = Crowd(COIN, [(1, 0)])
        turned = Crowd(("miss", "hit"), [(1, 0)])
        for call in (covered, lambda one, other: shows_covered(one, other, None)):
            for value in ANY_VALUES:
                self.refused(BadCrowd, {"part": "crowd"}, call, value, value)
                self.refused(BadCrowd, {"part": "wide"}, call, crowd, value)
            self.refused(BadCrowd, {"part": "fit"}, call, crowd, turned)
        for value in ANY_VALUES:
            self.assertIs(shows_covered(crowd, crowd, value), False)
            self.assertIs(shows_covered(crowd, crowd, Covered(value)), False)
            self.assertIs(shows_covered(crowd, crowd, Beyond(value, value)), False)
            self.assertIs(shows_covered(crowd, crowd, Beyond(0, value)), False)
        self.assertIs(shows_covered(crowd, crowd, Covered([[1]])), True)
        self.assertIs(shows_covered(crowd, crowd, Covered({0: [1]})), False)


class LeanedTest(Case):
    def test_plain_case(self):
        crowd = Crowd(COIN, [(HALF, HALF), (1, 0), (Ratio(1, 4), Ratio(3, 4)), (1, 0), (0, 1)])
        shown = leaned(crowd)
        self.assertEqual([index for index, _ in shown.kept], [1, 4])
        self.assertEqual([index for index, _ in shown.left], [0, 2, 3])
        self.assertEqual(dict(shown.left), {0: (0, HALF, 0, 0, HALF), 2: (0, Ratio(1, 4), 0, 0, Ratio(3, 4)),
                                            3: (0, 1, 0, 0, 0)})
        self.assertTrue(shows_leaned(crowd, shown))
        kept, left = dict(shown.kept), dict(shown.left)
        self.assertTrue(shows_leaned(crowd, Lean(kept, left)))
        for bent in (Lean(kept, {**left, 1: left[0]}), Lean({4: kept[4]}, left), Lean(kept, {0: left[0], 2: left[2]}),
                     Lean(shown.kept[::-1], left), Lean(kept, shown.left[::-1]), Lean(left, kept), Lean(kept, None),
                     Lean({**kept, 5: kept[4]}, left), Lean({**kept, -1: kept[4]}, left),
                     Lean(kept, {**left, 0: (1, 0, 0, 0, 0)}), Lean(kept, {**left, 0: (0, 0, HALF, HALF, 0)}),
                     Lean(kept, {**left, 3: (0, 0, 0, 1, 0)}), Lean({**kept, 1: (1, 1)}, left),
                     Lean({3: kept[1], 4: kept[4]}, {0: left[0], 1: (0, 0, 0, 1, 0), 2: left[2]}),
                     Lean({str(index): factors for index, factors in kept.items()}, left),
                     Lean(((True, kept[1]), (4, kept[4])), left), Lean([[1, kept[1], 0], [4, kept[4]]], left)):
            self.assertFalse(shows_leaned(crowd, bent))

    def test_drawn_crowds(self):
        rng = rng_of(12)
        for _ in range(150):
            crowd = drawn_crowd(rng, SIGNS[:rng.randint(1, 4)], rng.randint(1, 8), 2)
            shown = leaned(crowd)
            self.assertTrue(shows_leaned(crowd, shown))
            self.assertEqual(tuple(index for index, _ in shown.kept), crowd.needed)
            self.assertEqual(crowd.lean().corners, tuple(crowd.corners[index] for index in crowd.needed))
            self.assertEqual(crowd.lean(), crowd)
            kept, left = dict(shown.kept), dict(shown.left)
            index = rng.choice(sorted(kept))
            told = bent_numbers(rng, kept[index])
            others = Crowd(crowd.signs, [corner for corner in crowd if corner != crowd.corners[index]] or
                           [crowd.corners[index]])
            if len(others) != 1 or others.corners[0] != crowd.corners[index]:
                right = AllowedTest().is_right(others, crowd.corners[index], Parted, told)
                self.assertIs(shows_leaned(crowd, Lean({**kept, index: told}, left)), right)
            for other in left:
                told = bent_numbers(rng, left[other])
                right = (AllowedTest().is_right(crowd, crowd.corners[other], Mixed, told)
                         and all(told[at] == 0 for at in left))
                self.assertIs(shows_leaned(crowd, Lean(kept, {**left, other: told})), right)

    def test_errors_and_any_values(self):
        crowd = Crowd(COIN, [(1, 0)])
        for value in ANY_VALUES:
            self.refused(BadCrowd, {"part": "crowd"}, leaned, value)
            self.refused(BadCrowd, {"part": "crowd"}, shows_leaned, value, value)
            self.assertIs(shows_leaned(crowd, value), False)
            self.assertIs(shows_leaned(crowd, Lean(value, value)), False)
            self.assertIs(shows_leaned(crowd, Lean({0: (2, 0)}, value)), value in ({}, (), [])
                          and isinstance(value, (dict, list, tuple)))
            self.assertIs(shows_leaned(crowd, Lean({0: value}, {})), False)


if __name__ == "__main__":
    unittest.main()

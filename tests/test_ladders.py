import unittest

from peekproof.crowds import Crowd
from peekproof.errors import BadShelf, NoStudy, NotWithin, TooMany, Twice, UnlikeArms
from peekproof.greatest import greatest
from peekproof.joined import any_of
from peekproof.ladders import Ladder, NoRung, Rung, first_fit
from peekproof.made import in_a_row, in_all
from peekproof.ratios import Ratio
from peekproof.studies import Study
from peekproof.watches import Watch
from peekproof.within import within
from tests.support import ANY_VALUES, Case, drawn_crowd, drawn_watch, rng_of
from tests.test_solved import long_study

HALF = Ratio(1, 2)
PAIR = ("hit", "miss")
WIDE = {"trial": Crowd.between(PAIR, Ratio(1, 4), HALF)}
NO_LEVELS = [value for value in ANY_VALUES if not (value in (0, 1) and not isinstance(value, bool)) and value != HALF] + [-1, 2, Ratio(3, 2),
                                                                                                                       Ratio(-1, 9)]


class LadderTest(Case):
    def test_example(self):
        coin = {"coin": ("sale", "miss")}
        any2 = Watch(coin, ["lit", "dark"], [("a", "coin", ("lit", "b")), ("b", "coin", ("lit", "dark"))])
        all2 = Watch(coin, ["lit", "dark"], [("a", "coin", ("b", "dark")), ("b", "coin", ("lit", "dark"))])
        low = {"coin": Crowd.between(("sale", "miss"), Ratio(1, 4), Ratio(1, 2))}
        ladder = Ladder([("one", Study(any2, low)), ("two", Study(all2, low))])
        found = first_fit(ladder, Ratio(1, 2))
        self.assertEqual(repr([ladder.numbers(), found.name, found.held.number, found.ahead.number]),
                         "[(3/4, 1/4), 'two', 1/4, 3/4]")

    def test_parts(self):
        rungs = [["a", Study(in_all(1), WIDE)], ("b", Study(in_a_row(2), WIDE)), ("c", Study(in_a_row(3), WIDE))]
        ladder = Ladder(rungs)
        self.assertEqual(ladder.rungs, tuple(tuple(rung) for rung in rungs))
        self.assertEqual((len(ladder), list(ladder), "b" in ladder, "q" in ladder), (3, ["a", "b", "c"], True, False))
        for value in ANY_VALUES:
            self.assertIs(value in ladder, False)
            self.refused(NoStudy, {"name": value}, ladder.study_of, value)
        self.assertIs(ladder.study_of("b"), rungs[1][1])
        self.assertIs(ladder.study_of(name="c"), rungs[2][1])
        self.assertEqual(ladder.numbers(), (1, 1, 1))
        self.assertEqual(Ladder.MOST, 12)
        self.assertEqual(Ladder(rungs=tuple(rungs)), ladder)
        rungs.clear()
        self.assertEqual(len(ladder.rungs), 3)

    def test_equality(self):
        a, b = ("a", Study(in_all(1), WIDE)), ("b", Study(in_a_row(2), WIDE))
        ladders = [Ladder([a]), Ladder([b]), Ladder([a, b]), Ladder([("b", a[1])]), Ladder([("a", a[1]), ("c", b[1])]), Ladder([a, ("b", a[1])])]
        for at, one in enumerate(ladders):
            for place, other in enumerate(ladders):
                self.assertIs(one == other, at == place)
                self.assertIs(one != other, at != place)
        self.assertEqual(Ladder([list(a), b]), Ladder([a, b]))
        for value in [*ANY_VALUES, (a,), [a]]:
            self.assertIs(ladders[0] == value, False)

    def test_drawn(self):
        rng = rng_of(151)
        for _ in range(60):
            signs = {"coin": PAIR}
            watches = [drawn_watch(rng, rng.randint(1, 3), signs) for _ in range(3)]
            crowd = {"coin": drawn_crowd(rng, PAIR, 2)}
            many = rng.randint(1, 3)
            studies = [Study(any_of(*watches[:at]), crowd) for at in range(many, 0, -1)]
            ladder = Ladder([(f"r{at}", study) for at, study in enumerate(studies)])
            numbers = ladder.numbers()
            self.all_ratios(numbers)
            self.assertEqual(numbers, tuple(greatest(study).number for study in studies))
            self.assertTrue(all(one.compared(other) >= 0 for one, other in zip(numbers, numbers[1:])))
            for level in (0, 1, HALF, *numbers, Ratio(rng.randint(0, 9), 9)):
                fits = [at for at, told in enumerate(numbers) if told.compared(level) <= 0]
                found = first_fit(ladder, level)
                if fits:
                    at = fits[0]
                    self.assertEqual(found, Rung(f"r{at}", greatest(studies[at]), greatest(studies[at - 1]) if at else None))
                    self.assertEqual((found.name, found.held.number), (f"r{at}", numbers[at]))
                else:
                    self.assertEqual(found, NoRung(greatest(studies[-1])))
                    self.assertFalse(found)


class LimitsTest(Case):
    def test_bad_rungs(self):
        study = Study(in_all(1), WIDE)
        for value in ANY_VALUES:
            self.refused(BadShelf, {"part": "rungs"}, Ladder, value)
            self.refused(BadShelf, {"part": "rungs"}, Ladder, [("a", study), value])
            self.refused(BadShelf, {"part": "rungs"}, Ladder, [("a", study), ("a", value)])
            if value != "x":
                self.refused(BadShelf, {"part": "rungs"}, Ladder, [(value, study), ("a", study)])
        for value in (("a",), ("a", study, study), ("a.b", study), ("A", study), ("a", study.watch), {"a": study}):
            self.refused(BadShelf, {"part": "rungs"}, Ladder, [value])
        self.refused(BadShelf, {"part": "rungs"}, Ladder, {"a": study})

    def test_order_of_errors(self):
        one, other = Study(in_all(1), WIDE), Study(in_all(1), {"trial": Crowd.just(PAIR, (HALF, HALF))})
        self.refused(Twice, {"name": "b"}, Ladder, [("a", one), ("b", other), ("b", one), ("a", other)])
        self.refused(BadShelf, {"part": "crowds"}, Ladder, [("a", one), ("b", other)])
        self.refused(BadShelf, {"part": "crowds"}, Ladder, [(f"a{at}", one) for at in range(13)] + [("b", other)])
        turned = Study(in_all(1, signs=PAIR[::-1]), {"trial": Crowd.between(PAIR[::-1], HALF, Ratio(3, 4))})
        self.refused(BadShelf, {"part": "crowds"}, Ladder, [("a", one), ("b", turned)])
        worse = Study(in_a_row(2), WIDE)
        self.refused(TooMany, {"what": "rungs", "most": 12}, Ladder, [("z", worse), *[(f"a{at}", one) for at in range(12)]])
        self.assertEqual(len(Ladder([(f"a{at}", one) for at in range(12)])), 12)
        self.refused(NotWithin, {"name": "b", "row": ("hit",)}, Ladder, [("a", worse), ("b", one), ("c", worse), ("d", one)])
        self.refused(NotWithin, {"name": "c", "row": ("hit", "hit")}, Ladder, [("a", worse), ("b", Study(in_a_row(4), WIDE)), ("c", worse)])

    def test_crowds_that_are_equal_in_another_form(self):
        wide = {"trial": Crowd(PAIR, [(HALF, HALF), (Ratio(3, 8), Ratio(5, 8)), (Ratio(1, 4), Ratio(3, 4)), (HALF, HALF)])}
        ladder = Ladder([("a", Study(in_all(1), WIDE)), ("b", Study(in_all(2), wide)), ("c", Study(in_all(3), WIDE))])
        self.assertEqual(ladder.numbers(), (1, 1, 1))
        near = {"trial": Crowd(PAIR, [(HALF, HALF), (Ratio(1, 5), Ratio(4, 5))])}
        self.refused(BadShelf, {"part": "crowds"}, Ladder, [("a", Study(in_all(1), WIDE)), ("b", Study(in_all(2), near))])
        self.refused(BadShelf, {"part": "crowds"}, Ladder, [("a", Study(in_all(1), WIDE)), ("b", Study(Watch(
            {"x": PAIR}, ["lit"], [("s", "x", ("s", "s"))]), {"x": WIDE["trial"]})), ("c", Study(in_all(2), near))])

    def test_what_within_raises(self):
        one = Watch({"a": PAIR, "b": PAIR}, ["lit"], [("p", "a", ("q", "p")), ("q", "b", ("lit", "p"))])
        other = Watch({"a": PAIR}, ["lit"], [("p", "a", ("r", "p")), ("r", "a", ("lit", "p"))])
        even = Crowd.just(PAIR, (HALF, HALF))
        self.refused(UnlikeArms, {"one": "q", "other": "r"}, Ladder, [("a", Study(other, {"a": even})), ("b", Study(one, {"a": even, "b": even}))])
        self.refused(UnlikeArms, {"one": "r", "other": "q"}, Ladder, [("a", Study(one, {"a": even, "b": even})), ("b", Study(other, {"a": even}))])
        rings = [Study(Watch({"a": PAIR}, ["lit"], [(f"r{at}", "a", [f"r{(at + 1) % many}"] * 2) for at in range(many)]), {"a": even})
                 for many in (7, 29, 25, 8)]
        self.refused(TooMany, {"what": "pairs", "most": 200}, Ladder, [("a", rings[0]), ("b", rings[1])])
        self.assertEqual(len(Ladder([("a", rings[2]), ("b", rings[3])])), 2)
        # Only signs that are possible count.
        low = {"trial": Crowd.just(PAIR, (0, 1))}
        self.assertEqual(Ladder([("a", Study(in_a_row(3), low)), ("b", Study(in_a_row(2), low))]).numbers(), (0, 0))
        self.assertEqual(within(in_a_row(2), in_a_row(3)).word, "row")

    def test_first_fit_errors(self):
        ladder = Ladder([("a", Study(in_all(1), WIDE))])
        for value in [*ANY_VALUES, ladder.rungs]:
            self.refused(BadShelf, {"part": "ladder"}, first_fit, value, value)
        for value in NO_LEVELS:
            self.refused(BadShelf, {"part": "level"}, first_fit, ladder, value)
        large = long_study(41)
        deep = Ladder([("a", large)])
        self.refused(BadShelf, {"part": "level"}, first_fit, deep, None)
        self.refused(TooMany, {"what": "states", "most": 40}, first_fit, deep, 1)
        self.refused(TooMany, {"what": "states", "most": 40}, deep.numbers)
        # A rung behind the one that fits is refused, too.
        arm, signs = large.watch.arms[0]
        short = Study(Watch({arm: signs}, ["lit"], [("s", arm, ["lit"] * len(signs))]), {arm: large.crowds[0][1]})
        both = Ladder([("a", short), ("b", large)])
        self.refused(TooMany, {"what": "states", "most": 40}, first_fit, both, 1)
        self.refused(TooMany, {"what": "states", "most": 40}, both.numbers)
        self.assertEqual(first_fit(ladder=ladder, level=1).name, "a")
        self.assertEqual(first_fit(ladder, HALF).word, "norung")


if __name__ == "__main__":
    unittest.main()

import unittest

from peekproof.crowds import Crowd
from peekproof.errors import BadStudy
from peekproof.made import cut, in_a_row, sooner
from peekproof.ratios import Ratio
from peekproof.studies import Study
from peekproof.sure import Sure, Trap, sure
from peekproof.watches import Watch
from tests.study_oracle import greatest_trap, least_sure_ranks, moves
from tests.support import ANY_VALUES, Case, drawn_study, rng_of

COIN = {"coin": ("hit", "miss")}


class SureTest(Case):
    def test_plain_cases(self):
        fair = {"trial": Crowd.between(("hit", "miss"), Ratio(1, 4), Ratio(3, 4))}
        self.assertEqual(sure(Study(in_a_row(3), fair)), Sure({"s0": 3, "s1": 2, "s2": 1}))
        wide = {"trial": Crowd.between(("hit", "miss"), 0, 1)}
        self.assertEqual(sure(Study(cut(in_a_row(2), 2), wide)), Sure({"s0": 2, "s1": 1, "s2": 1}))
        self.assertEqual(sure(Study(sooner(2, 2), wide)), Trap((), {"s0": 0, "s1": 0, "s2": 1}))
        self.assertIsInstance(sure(Study(in_a_row(3), wide)), Trap)

    def test_sure_ranks_of_a_study_that_turns(self):
        crowd = Crowd(("hit", "miss"), [[1, 0], [Ratio(1, 2), Ratio(1, 2)]])
        self.assertEqual(sure(Study(sooner(2, 2), {"trial": crowd})), Sure({"s0": 2, "s1": 1, "s2": 3}))

    def test_a_trap_tells_the_first_corners_and_the_least_row(self):
        lines = [("a", "coin", ("b", "c")), ("b", "coin", ("lit", "d")), ("c", "coin", ("c", "lit")),
                 ("d", "coin", ("lit", "d"))]
        watch = Watch(COIN, ["lit"], lines)
        half = Ratio(1, 2)
        study = Study(watch, {"coin": Crowd(("hit", "miss"), [[half, half], [0, 1], [1, 0], [0, 1]])})
        self.assertEqual(sure(study), Trap((), {"a": 0, "b": 1, "c": 2, "d": 1}))
        study = Study(watch, {"coin": Crowd(("hit", "miss"), [[half, half], [0, 1]])})
        self.assertEqual(sure(study), Trap(("hit",), {"b": 1, "d": 1}))
        self.assertEqual(sure(study).corners, (("b", 1), ("d", 1)))
        study = Study(watch, {"coin": Crowd(("hit", "miss"), [[1, 0]])})
        self.assertTrue(sure(study) and study.is_sure)
        self.assertEqual(sure(Study(watch.begun("c"), {"coin": Crowd(("hit", "miss"), [[half, half], [1, 0]])})),
                         Trap([], {"c": 1}))

    def test_drawn_studies(self):
        rng = rng_of(26)
        words = []
        for _ in range(400):
            study = drawn_study(rng, rng.randint(1, 6), most=2)
            shown = sure(study)
            words.append(shown.word)
            trap = greatest_trap(study)
            self.assertIs(study.is_sure, not trap)
            if shown:
                self.assertEqual(shown, Sure(least_sure_ranks(study)))
                continue
            self.assertIsNone(least_sure_ranks(study))
            self.assertEqual(shown.corners, tuple(sorted(trap.items())))
            for state, corner in trap.items():
                self.assertTrue(all(place in trap for _, place in moves(study, state)[corner]))
            rows = [row for length in range(7) for row in study.rows(length)
                    if len(row) == length and study.watch.after(row) in trap]
            self.assertEqual(shown.row, rows[0])
        self.assertTrue(words.count("sure") > 50 and words.count("trap") > 50)

    def test_studies_of_any_size(self):
        ring = Watch(COIN, ["lit"], [(f"q{at}", "coin", (f"q{at + 1}" if at < 199 else "lit", "q0")) for at in range(200)])
        half = Study(ring, {"coin": Crowd.just(("hit", "miss"), [Ratio(1, 2), Ratio(1, 2)])})
        self.assertEqual(dict(sure(half).ranks), {f"q{at}": 200 - at for at in range(200)})
        loose = Study(ring, {"coin": Crowd.between(("hit", "miss"), 0, 1)})
        self.assertEqual(sure(loose), Trap((), {f"q{at}": 0 for at in range(200)}))

    def test_errors(self):
        for value in [*ANY_VALUES, in_a_row(2)]:
            self.refused(BadStudy, {"part": "study"}, sure, value)


if __name__ == "__main__":
    unittest.main()

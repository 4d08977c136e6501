import unittest

from peekproof.costs import Costs
from peekproof.crowds import Crowd
from peekproof.errors import BadCosts, BadNumbers, BadStudy, BadWatch, NoSign, NoState, TooMany, Twice, UnlikeArms
from peekproof.greatest import greatest
from peekproof.late import Late
from peekproof.least import least
from peekproof.lost import Lost
from peekproof.pockets import Handled
from peekproof.ratios import Ratio
from peekproof.studies import Study
from peekproof.sure import sure
from peekproof.watches import Watch
from tests.pocket_oracle import delaying, late_pockets, most_lit_late
from tests.study_oracle import number
from tests.support import ANY_VALUES, Case, drawn_study, rng_of
from tests.test_costs import drawn_costs
from tests.test_handled import EVEN, HALF, HITS, ONE_KIND, PAIR, ahead_study, labelled, row_study

THREE_SIGNS = {"die": ("a", "b", "c"), "top": ("a", "b", "c")}


class LateTest(Case):
    def test_drawn(self):
        rng = rng_of(111)
        for _ in range(100):
            study = drawn_study(rng, rng.randint(1, 3), 2, rng.choice([ONE_KIND, THREE_SIGNS]))
            most = rng.randrange(3)
            late = Late(study, most)
            wanted, told = delaying(study, most)
            self.assertEqual((late.most, Late(study).most, Late(most=most, study=study)), (most, 1, late))
            self.assertIs(late.plain, study)
            self.assertEqual(late, wanted)
            self.assertEqual((late.watch.states, late.states, late.ends, late.watch.arms, late.watch.ends),
                             (wanted.watch.states, wanted.states, wanted.ends, wanted.watch.arms, study.watch.ends))
            pockets = late_pockets(study.watch.arms[0][1], most)
            self.assertEqual(late.pockets, tuple(pockets))
            pairs = [(state, pocket) for state in study.watch.states for pocket in pockets]
            self.assertEqual(list(late.origins()), [(label, state, pocket[0], pocket[1])
                                                    for label, (state, pocket) in zip(late.watch.states, pairs)])
            for label in late.watch.states:
                for sign in late.watch.signs_of(label):
                    state, left, held, drawn, heard = told[label, sign]
                    self.assertEqual(late.origin(label), (state, left, held))
                    self.assertEqual((late.drawn(label, sign), late.heard(label, sign)), (drawn, heard))
            for kind in (Study, Late):
                again = kind.read(str(late))
                self.assertEqual((again, again.__class__), (late, Study))

    def test_pockets_and_names(self):
        late = Late(EVEN, 2)
        self.assertEqual(late.pockets, ((2, ()), (1, ()), (1, ("hit",)), (1, ("miss",)), (0, ()), (0, ("hit",)), (0, ("miss",)),
                                        (0, ("hit", "hit")), (0, ("hit", "miss")), (0, ("miss", "miss"))))
        self.assertEqual(late.watch.states[:10], ("a.k2b", "a.k1b", "a.k1b0", "a.k1b1", "a.k0b", "a.k0b0", "a.k0b1", "a.k0b00",
                                                  "a.k0b01", "a.k0b11"))
        self.assertEqual(late.watch.signs_of("a.k1b1"), ("hit", "miss", "hit.held", "miss.held", "miss.late"))
        self.assertEqual(late.watch.signs_of("a.k0b00"), ("hit", "miss", "hit.late"))
        self.assertEqual(late.watch.arm_of("b.k0b01"), "coin.k0b01")
        self.assertEqual(late.watch.places_of("a.k1b1"), ("b.k1b1", "dark", "a.k0b01", "a.k0b11", "dark"))
        self.assertEqual(late.watch.places_of("b.k0b01"), ("lit", "dark", "lit", "dark"))
        self.assertEqual([late.heard("a.k0b01", sign) for sign in late.watch.signs_of("a.k0b01")],
                         [("hit",), ("miss",), ("hit",), ("miss",)])
        self.assertEqual([late.drawn("a.k1b0", sign) for sign in late.watch.signs_of("a.k1b0")],
                         ["hit", "miss", "hit", "miss", None])
        self.assertEqual(late.corners_of("a.k1b0")[-1], (0, 0, 0, 0, 1))
        self.assertEqual(late.corners_of("a.k0b01"), ((HALF, HALF, 0, 0), (0, 0, 1, 0), (0, 0, 0, 1)))
        self.assertEqual((Late(EVEN, 0).watch.states, Late(EVEN, 0).pockets), (("a.k0b", "b.k0b"), ((0, ()),)))
        many = Late(Study(Watch({"d": [f"x{at}" for at in range(6)]}, ["lit"], [("s", "d", ["lit"] * 6)]),
                          {"d": Crowd.all_sure([f"x{at}" for at in range(6)])}), 1)
        self.assertEqual(many.watch.states[-1], "s.k0b5")

    def test_what_is_held_at_the_end_is_never_told(self):
        late = Late(EVEN, 1)
        self.assertEqual(late.told(("miss.held", "hit", "hit")), ("hit", "hit"))
        self.assertEqual(late.watch.after(("miss.held", "hit", "hit")), "lit")
        self.assertEqual(late.told(("hit.held", "hit", "hit.late")), ("hit", "hit"))
        self.assertEqual(late.told(["miss.held", "miss.late"]), ("miss",))

    def test_rows(self):
        rng = rng_of(112)
        for _ in range(80):
            study = drawn_study(rng, rng.randint(1, 4), 2, ONE_KIND)
            late = Late(study, rng.randrange(3))
            row, place, heard = [], late.watch.first, []
            while place in late.watch and len(row) < 9:
                sign = rng.choice(late.watch.signs_of(place))
                heard += late.heard(place, sign)
                row.append(sign)
                place = late.watch.place(place, sign)
                self.assertEqual(late.told(row), tuple(heard))
                plain = study.watch.after(heard)
                self.assertEqual(plain, late.origin(place)[0] if place in late.watch else place)
            self.refused(NoSign, {"name": "x"}, late.told, [*row, "x"])
            for value in [value for value in ANY_VALUES if not isinstance(value, (list, tuple))]:
                self.refused(BadWatch, {"part": "row"}, late.told, value)

    def test_carried_costs(self):
        rng = rng_of(113)
        for _ in range(60):
            study = drawn_study(rng, rng.randint(1, 3), 2, ONE_KIND)
            costs = drawn_costs(rng, study.watch)
            late = Late(study, rng.randrange(3))
            carried = late.carried(costs)
            self.assertEqual(carried.watch, late.watch)
            for label, state, _, _ in late.origins():
                for sign in late.watch.signs_of(label):
                    drawn = late.drawn(label, sign)
                    self.assertEqual(carried[label, sign], 0 if drawn is None else costs[state, drawn])
        for value in [*ANY_VALUES, EVEN]:
            self.refused(BadCosts, {"part": "costs"}, Late(EVEN).carried, value)
        self.refused(BadCosts, {"part": "watch"}, Late(EVEN).carried, Costs.each_trial(Late(EVEN).watch))

    def test_by_all_choices(self):
        rng = rng_of(114)
        for _ in range(60):
            study = ahead_study(rng)
            for most in range(3):
                self.assertEqual(number(greatest(Late(study, most)).number), most_lit_late(study, study.watch.first, most, ()))

    def test_facts(self):
        rng = rng_of(115)
        for _ in range(40):
            study = drawn_study(rng, rng.randint(1, 2), 2, ONE_KIND)
            late, lost = [Late(study, most) for most in range(3)], [Lost(study, most) for most in range(3)]
            tops = [number(greatest(one).number) for one in (study, *late)]
            self.assertEqual(tops[0], tops[1])
            self.assertEqual(tops, sorted(tops))
            self.assertTrue(all(number(greatest(one).number) <= number(greatest(two).number) for one, two in zip(lost, late)))
            if sure(study) and all(sure(one) for one in late):
                lows = [number(least(one).number) for one in (study, *late)]
                self.assertEqual(lows, sorted(lows, reverse=True))
            for one, two in zip(lost, late):
                if sure(one) and sure(two):
                    self.assertGreaterEqual(number(least(one).number), number(least(two).number))

    def test_kinds(self):
        late = Late(EVEN)
        self.assertIsInstance(late, Handled)
        changed = late.with_crowd(late.watch.arms[0][0], late.crowds[0][1].lean())
        self.assertIs(changed.__class__, Study)
        for value in [*ANY_VALUES, "a", "lit", "a.k2b"]:
            self.refused(NoState, {"name": value}, late.origin, value)
            self.refused(NoState, {"name": value}, late.drawn, value, value)
            self.refused(NoState, {"name": value}, late.heard, value, value)
        for value in [*ANY_VALUES, "coin", "hit.late"]:
            self.refused(NoSign, {"name": value}, late.drawn, "a.k1b", value)
            self.refused(NoSign, {"name": value}, late.heard, "a.k1b", value)


class LimitsTest(Case):
    def test_bad_parts(self):
        for value in [*ANY_VALUES, HITS]:
            self.refused(BadStudy, {"part": "study"}, Late, value, value)
        for value in [*[value for value in ANY_VALUES if value not in (0, 1) or isinstance(value, bool)], 3, -1, None]:
            self.refused(BadNumbers, {"part": "most"}, Late, EVEN, value)

    def test_arms_with_other_signs(self):
        arms = {"a": PAIR, "b": PAIR, "c": PAIR[::-1], "d": (*PAIR, "edge")}
        lines = [("p", "a", ("q", "q")), ("q", "b", ("r", "r")), ("r", "c", ("lit", "lit")), ("s", "d", ("lit", "lit", "lit"))]
        study = Study(Watch(arms, ["lit"], lines), {arm: Crowd.all_sure(signs) for arm, signs in arms.items()})
        for most in (0, 1, 2):
            self.refused(UnlikeArms, {"one": "a", "other": "c"}, Late, study, most)
        self.refused(BadNumbers, {"part": "most"}, Late, study, 3)
        many = Study(Watch(arms, ["lit"], [*lines, *[(f"q{at}", "a", ("lit", "lit")) for at in range(100)]]), dict(study.crowds))
        self.refused(UnlikeArms, {"one": "a", "other": "c"}, Late, many, 1)

    def test_sizes(self):
        # Two signs have 4 pockets with a budget of 1, and 10 with one of 2.
        self.assertEqual(len(Late(row_study(50), 1).watch), 200)
        self.refused(TooMany, {"what": "states", "most": 200}, Late, row_study(51), 1)
        self.refused(TooMany, {"what": "states", "most": 200}, Late, row_study(51, 41), 1)
        self.assertEqual(len(Late(row_study(20), 2).watch), 200)
        self.refused(TooMany, {"what": "states", "most": 200}, Late, row_study(21), 2)
        self.assertEqual(len(Late(row_study(200), 0).watch), 200)
        self.assertEqual(len(Late(row_study(10, 10), 1).crowds), 40)
        self.refused(TooMany, {"what": "arms", "most": 40}, Late, row_study(11, 11), 1)
        self.assertEqual(len(Late(row_study(4, 4), 2).crowds), 40)
        self.refused(TooMany, {"what": "arms", "most": 40}, Late, row_study(5, 5), 2)
        six, five, wide = ([f"x{at}" for at in range(many)] for many in (6, 5, 12))
        self.assertEqual(len(Late(row_study(2, 1, six), 1).crowds[0][1].signs), 12)
        self.refused(TooMany, {"what": "signs", "most": 12}, Late, row_study(2, 1, six), 2)
        self.assertEqual(max(len(crowd.signs) for _, crowd in Late(row_study(2, 1, five), 2).crowds), 11)
        self.refused(TooMany, {"what": "signs", "most": 12}, Late, row_study(2, 1, [*six, "y"]), 1)
        self.refused(TooMany, {"what": "arms", "most": 40}, Late, row_study(6, 6, [*six, "y"]), 1)
        self.assertEqual(Late(row_study(2, 1, wide), 0).watch.states, ("q0.k0b", "q1.k0b"))
        self.refused(TooMany, {"what": "arms", "most": 40}, Late, row_study(1, 1, wide), 2)
        self.refused(TooMany, {"what": "states", "most": 200}, Late, row_study(2, 1, wide), 2)

    def test_corners(self):
        third, signs = [Ratio(1, 3)] * 3, ("a", "b", "c")
        study = Study(labelled(signs=signs).watch, {"a": Crowd(signs, [third] * 12)})
        self.assertEqual([len(crowd) for _, crowd in Late(study, 1).crowds], [96, 12, 13, 13, 13])
        self.refused(TooMany, {"what": "corners", "most": 96}, Late, study, 2)
        self.refused(TooMany, {"what": "corners", "most": 96}, Late, study.with_crowd("a", Crowd(signs, [third] * 13)), 1)
        pair = Study(labelled().watch, {"a": Crowd(PAIR, [[1, 0]] * 95)})
        self.refused(TooMany, {"what": "corners", "most": 96}, Late, pair, 1)
        self.assertEqual(len(Late(pair, 0).crowds[0][1]), 95)
        fits = Study(labelled().watch, {"a": Crowd(PAIR, [[1, 0]] * 47)})
        self.assertEqual(max(len(crowd) for _, crowd in Late(fits, 2).crowds), 95)
        seven = [f"x{at}" for at in range(7)]
        wide = Study(labelled(signs=seven).watch, {"a": Crowd(seven, [[Ratio(1, 7)] * 7] * 2)})
        self.refused(TooMany, {"what": "signs", "most": 12}, Late, wide, 1)

    def test_corners_ahead_of_labels(self):
        # With 96 moved corners the one that gives a late sign 1 is one too many; ahead of it no label is looked at.
        crowd = Crowd(("a", "b", "c"), [[Ratio(1, 3)] * 3] * 12)
        long = Study(labelled(state="a.b.c.d.e.f", signs=("a", "b", "c")).watch, {"a": crowd})
        self.refused(TooMany, {"what": "corners", "most": 96}, Late, long, 2)
        self.refused(TooMany, {"what": "names", "most": 6}, Late, long, 1)

    def test_labels(self):
        six, five = "a.b.c.d.e.f", "a.b.c.d.e"
        self.assertEqual(Late(labelled(five, five, (five, "x"))).states[0], f"{five}.k1b")
        for study in (labelled(state=six), labelled(arm=six), labelled(signs=(six, "x"))):
            self.refused(TooMany, {"what": "names", "most": 6}, Late, study)
        self.assertEqual(len(Late(labelled(signs=(six, "x")), 0).watch), 1)
        self.refused(TooMany, {"what": "names", "most": 6}, Late, labelled(state=six), 0)
        self.refused(TooMany, {"what": "names", "most": 6}, Late, labelled(arm=six), 0)

    def test_labels_that_meet(self):
        signs = ("x", "y.held", "x.held", "y")
        self.refused(Twice, {"name": "x.held"}, Late, labelled(signs=signs))
        self.refused(Twice, {"name": "y.held"}, Late, labelled(signs=("x", "y.held", "y")))
        self.refused(Twice, {"name": "x.late"}, Late, labelled(signs=("x", "x.late")))
        self.refused(Twice, {"name": "x.held"}, Late, labelled(signs=("x", "x.late", "x.held")))
        self.assertEqual(len(Late(labelled(signs=signs), 0).watch), 1)
        self.refused(Twice, {"name": "s.k1b"}, Late, labelled(ends=("lit", "s.k0b", "s.k1b")))
        self.refused(Twice, {"name": "s.k0b1"}, Late, labelled(ends=("lit", "s.k0b1")))
        self.assertEqual(len(Late(labelled(ends=("lit", "s.k0b1")), 0).watch), 1)
        self.refused(Twice, {"name": "x.held"}, Late, labelled(signs=signs, ends=("lit", "s.k1b")))
        self.refused(TooMany, {"what": "names", "most": 6}, Late, labelled("a.b.c.d.e.f", signs=signs))


if __name__ == "__main__":
    unittest.main()

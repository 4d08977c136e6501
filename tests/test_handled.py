import unittest

from peekproof.costs import Costs
from peekproof.crowds import Crowd
from peekproof.dearest import dearest
from peekproof.errors import (BadCosts, BadNumbers, BadStudy, BadTable, BadWatch, NoArm, NoSign, NoState, TooMany, Twice,
                              UnlikeArms)
from peekproof.greatest import greatest
from peekproof.least import least
from peekproof.lost import Lost
from peekproof.misread import Misread, misread
from peekproof.nests import flattened, nested
from peekproof.pockets import Handled
from peekproof.ratios import Ratio
from peekproof.studies import Study
from peekproof.sure import sure
from peekproof.tables import Table
from peekproof.twice import Doubled
from peekproof.watches import Watch
from tests.pocket_oracle import misreading, most_lit, spending
from tests.study_oracle import number
from tests.support import ANY_VALUES, Case, drawn_chances, drawn_crowd, drawn_study, rng_of
from tests.test_costs import drawn_costs
from tests.test_solved import QUARTER, TURN

HALF = Ratio(1, 2)
PAIR = ("hit", "miss")
HITS = Watch({"coin": PAIR}, ("lit", "dark"), [("a", "coin", ("b", "dark")), ("b", "coin", ("lit", "dark"))])
EVEN = Study(HITS, {"coin": Crowd.just(PAIR, (HALF, HALF))})
ONE_KIND = {"coin": PAIR, "card": PAIR}
TWO_KINDS = {"coin": PAIR, "die": ("a", "b", "c")}


def drawn_table(rng, signs):
    return Table(signs, signs, [drawn_chances(rng, len(signs), 2) for _ in signs])


def ahead_study(rng, many=3):
    """A study of so many states, or one, that lead to later ones and to ends alone."""
    labels = [f"q{at}" for at in range(rng.randint(1, many))]
    lines = [(label, rng.choice(sorted(ONE_KIND)), [rng.choice([*labels[at + 1:], *labels[at + 1:], "lit", "dark"]) for _ in PAIR])
             for at, label in enumerate(labels)]
    watch = Watch({arm: PAIR for _, arm, _ in lines}, ["lit", "dark"], lines)
    return Study(watch, {arm: drawn_crowd(rng, PAIR, rng.randint(1, 2)) for arm, _ in watch.arms})


def row_study(many, arms=1, signs=PAIR):
    """A study with so many states, round so many arms."""
    lines = [(f"q{at}", f"a{at % arms}", [f"q{at + 1}" if at < many - 1 else "lit", *["dark"] * (len(signs) - 1)])
             for at in range(many)]
    return Study(Watch({f"a{at}": signs for at in range(arms)}, ["lit", "dark"], lines),
                 {f"a{at}": Crowd.just(signs, [1, *[0] * (len(signs) - 1)]) for at in range(arms)})


def labelled(state="s", arm="a", signs=PAIR, ends=("lit", "dark"), chances=None):
    watch = Watch({arm: signs}, ends, [(state, arm, [ends[0]] * len(signs))])
    return Study(watch, {arm: Crowd.just(signs, chances or [1, *[0] * (len(signs) - 1)])})


class ExampleTest(Case):
    def test_example(self):
        lost = Lost(EVEN, 1)
        self.assertEqual(repr([greatest(lost).number, lost.states, lost.told(("miss.lost", "hit", "hit"))]),
                         "[1/2, ('a.l1', 'b.l1', 'a.l0', 'b.l0'), ('hit', 'hit')]")


class HandledTest(Case):
    def check(self, study, handled, wanted, told, lefts):
        self.assertEqual(handled, wanted)
        self.assertEqual(wanted, handled)
        self.assertEqual((handled.watch.states, handled.states, handled.ends), (wanted.watch.states, wanted.states, wanted.ends))
        self.assertEqual((handled.watch.arms, handled.watch.ends), (wanted.watch.arms, study.watch.ends))
        self.assertIs(handled.plain, study)
        self.assertEqual(handled.pockets, tuple((left, ()) for left in lefts))
        pairs = [(state, left) for state in study.watch.states for left in lefts]
        self.assertEqual(list(handled.origins()),
                         [(label, state, left, ()) for label, (state, left) in zip(handled.watch.states, pairs)])
        for label in handled.watch.states:
            for sign in handled.watch.signs_of(label):
                state, left, drawn, heard = told[label, sign]
                self.assertEqual(handled.origin(label), (state, left, ()))
                self.assertEqual((handled.drawn(label, sign), handled.heard(label, sign)), (drawn, heard))
        for kind in (Study, handled.__class__):
            again = kind.read(str(handled))
            self.assertEqual((again, again.__class__), (handled, Study))

    def test_drawn_lost(self):
        rng = rng_of(101)
        for _ in range(120):
            study = drawn_study(rng, rng.randint(1, 4), 2, TWO_KINDS)
            most = rng.choice([None, 0, 1, 2])
            lost = Lost(study, most)
            self.assertEqual((lost.most, Lost(study).most, Lost(most=2, study=study).most), (most, 1, 2))
            self.check(study, lost, *spending(study, most, "l", "lost", False),
                       [None] if most is None else range(most, -1, -1))

    def test_drawn_doubled(self):
        rng = rng_of(102)
        for _ in range(120):
            study = drawn_study(rng, rng.randint(1, 4), 2, ONE_KIND)
            most = rng.choice([0, 1, 2])
            twice = Doubled(study, most)
            self.assertEqual((twice.most, Doubled(study).most), (most, 1))
            self.check(study, twice, *spending(study, most, "t", "twice", True), range(most, -1, -1))

    def test_drawn_misread(self):
        rng = rng_of(103)
        for _ in range(120):
            study = drawn_study(rng, rng.randint(1, 4), 2, TWO_KINDS)
            tables = {arm: drawn_table(rng, signs) for arm, signs in study.watch.arms if rng.randrange(3)}
            seen = Misread(study, tables)
            self.assertEqual(seen.most, 0)
            self.check(study, seen, *misreading(study, tables), [0])
            plain = misread(study, tables)
            self.assertEqual(plain.watch, study.watch)
            for (arm, crowd), (_, other) in zip(plain.crowds, study.crowds):
                self.assertEqual(crowd.corners, (other * tables[arm] if arm in tables else other).corners)
            self.assertEqual(greatest(seen).table, greatest(plain).table)
            self.assertEqual(least(seen).parts[1] if least(seen) else None, least(plain).parts[1] if least(plain) else None)

    def test_rows(self):
        rng = rng_of(104)
        for _ in range(80):
            study = drawn_study(rng, rng.randint(1, 4), 2, ONE_KIND)
            tables = {arm: drawn_table(rng, signs) for arm, signs in study.watch.arms if rng.randrange(3)}
            for handled in (Lost(study, rng.choice([None, 0, 1, 2])), Doubled(study, rng.randrange(3)), Misread(study, tables)):
                row, place, heard = [], handled.watch.first, []
                while place in handled.watch and len(row) < 8:
                    sign = rng.choice(handled.watch.signs_of(place))
                    heard += handled.heard(place, sign)
                    row.append(sign)
                    place = handled.watch.place(place, sign)
                    self.assertEqual(handled.told(row), tuple(heard))
                    plain = study.watch.after(heard)
                    self.assertEqual(plain, handled.origin(place)[0] if place in handled.watch else place)
                self.refused(NoSign, {"name": "x"}, handled.told, [*row, "x"])
                self.assertEqual(handled.told(()), ())
                for value in [value for value in ANY_VALUES if not isinstance(value, (list, tuple))]:
                    self.refused(BadWatch, {"part": "row"}, handled.told, value)

    def test_errors_of_states_and_signs(self):
        lost = Lost(QUARTER, 1)
        for value in [*ANY_VALUES, "one", "lit", "one.l2"]:
            self.refused(NoState, {"name": value}, lost.origin, value)
            self.refused(NoState, {"name": value}, lost.drawn, value, value)
            self.refused(NoState, {"name": value}, lost.heard, value, value)
        for value in [*ANY_VALUES, "coin", "hit"]:
            self.refused(NoSign, {"name": value}, lost.drawn, "two.l1", value)
            self.refused(NoSign, {"name": value}, lost.heard, "two.l1", value)
        self.refused(NoSign, {"name": "sale.lost"}, lost.heard, "two.l0", "sale.lost")
        spare = Study(Watch({"c": PAIR}, ["lit"], [("a", "c", ("lit", "lit")), ("b", "c", ("a", "b"))]), {"c": Crowd.just(PAIR, [1, 0])})
        handled = Doubled(spare)
        self.assertEqual((handled.states, handled.watch.states), (("a.t1",), ("a.t1", "a.t0", "b.t1", "b.t0")))
        self.assertEqual((handled.origin("b.t0"), handled.heard("b.t1", "hit.twice"), handled.drawn("b.t1", "miss.twice")),
                         (("b", 0, ()), ("hit", "hit"), "miss"))

    def test_kinds(self):
        for handled in (Lost(EVEN), Doubled(EVEN), Misread(EVEN, {})):
            self.assertIsInstance(handled, Handled)
            self.assertIsInstance(handled, Study)
            changed = handled.with_crowd(handled.watch.arms[0][0], handled.crowds[0][1].lean())
            self.assertIs(changed.__class__, Study)
        self.assertEqual(Handled.BUDGET, 2)
        self.assertTrue(issubclass(Handled, Study) and Lost(EVEN) != EVEN and Lost(EVEN, None) != Lost(EVEN, 2))

    def test_carried_costs(self):
        rng = rng_of(105)
        for _ in range(60):
            study = drawn_study(rng, rng.randint(1, 3), 2, ONE_KIND)
            costs = drawn_costs(rng, study.watch)
            for handled in (Lost(study, rng.choice([None, 1, 2])), Doubled(study), Misread(study, {})):
                carried = handled.carried(costs)
                self.assertEqual(carried.watch, handled.watch)
                for label, state, _, _ in handled.origins():
                    for sign in handled.watch.signs_of(label):
                        self.assertEqual(carried[label, sign], costs[state, handled.drawn(label, sign)])
            for value in [*ANY_VALUES, study]:
                self.refused(BadCosts, {"part": "costs"}, Lost(study).carried, value)
        self.refused(BadCosts, {"part": "watch"}, Lost(EVEN).carried, Costs.each_trial(Lost(EVEN).watch))
        self.refused(BadCosts, {"part": "watch"}, Lost(EVEN).carried, Costs.each_trial(TURN))
        self.assertEqual(dearest(Lost(EVEN, 1), Lost(EVEN, 1).carried(Costs.each_trial(HITS))).number, Ratio(11, 4))


class FactsTest(Case):
    def test_greatest_and_least_numbers(self):
        rng = rng_of(106)
        for _ in range(50):
            study = drawn_study(rng, rng.randint(1, 3), 2, ONE_KIND)
            for kind in (Lost, Doubled):
                tops = [number(paper.number) for paper in (greatest(study), *[greatest(kind(study, most)) for most in range(3)])]
                self.assertEqual(tops[0], tops[1])
                self.assertEqual(tops, sorted(tops))
                handled = [kind(study, most) for most in range(3)]
                if sure(study) and all(sure(one) for one in handled):
                    lows = [number(least(one).number) for one in (study, *handled)]
                    self.assertEqual(lows, sorted(lows, reverse=True))
            for most in range(3):
                self.assertEqual(bool(sure(Lost(study, most))), bool(sure(study)))
            free = Lost(study, None)
            self.assertFalse(sure(free))
            lit = any(study.watch.after(row) == "lit" for row in study.rows(4))
            self.assertEqual(greatest(free).number, int(lit))

    def test_by_all_choices(self):
        rng = rng_of(107)
        for _ in range(60):
            study = ahead_study(rng)
            for most in range(3):
                for kind, twice in ((Lost, False), (Doubled, True)):
                    self.assertEqual(number(greatest(kind(study, most)).number), most_lit(study, study.watch.first, most, twice))

    def test_nests(self):
        rng = rng_of(108)
        for _ in range(30):
            inner = ahead_study(rng)
            outer = Study(Watch({"x": ("lit", "dark")}, ["lit", "dark"], [("s", "x", ("lit", rng.choice(["dark", "t"]))),
                                                                       ("t", "x", (rng.choice(["lit", "dark"]), "dark"))]),
                          {"x": Crowd.all_sure(("lit", "dark"))})
            flat = greatest(Lost(flattened(outer, {"x": inner}), 1)).number
            near = greatest(nested(outer, {"x": Lost(inner, 1)})).number
            self.assertTrue(flat.compared(near) <= 0)


class LimitsTest(Case):
    def test_bad_parts(self):
        for value in [*ANY_VALUES, HITS]:
            self.refused(BadStudy, {"part": "study"}, Lost, value, value)
            self.refused(BadStudy, {"part": "study"}, Doubled, value, value)
        for value in [*[value for value in ANY_VALUES if value not in (0, 1) or isinstance(value, bool)], 3, -1]:
            if value is not None:
                self.refused(BadNumbers, {"part": "most"}, Lost, EVEN, value)
            self.refused(BadNumbers, {"part": "most"}, Doubled, EVEN, value)

    def test_arms_with_other_signs(self):
        lines = [("p", "a", ("q", "q")), ("q", "b", ("r", "r")), ("r", "c", ("lit", "lit")), ("s", "d", ("lit", "lit", "lit"))]
        arms = {"a": PAIR, "b": PAIR, "c": PAIR[::-1], "d": (*PAIR, "edge")}
        study = Study(Watch(arms, ["lit"], lines), {arm: Crowd.all_sure(signs) for arm, signs in arms.items()})
        for most in (0, 1, 2):
            self.refused(UnlikeArms, {"one": "a", "other": "c"}, Doubled, study, most)
        self.assertEqual(len(Lost(study, 0).watch), 4)
        self.refused(BadNumbers, {"part": "most"}, Doubled, study, 3)
        many = Study(Watch(arms, ["lit"], [*lines, *[(f"q{at}", "a", ("lit", "lit")) for at in range(100)]]), dict(study.crowds))
        self.refused(UnlikeArms, {"one": "a", "other": "c"}, Doubled, many, 1)

    def test_sizes(self):
        for kind in (Lost, Doubled):
            self.assertEqual(len(kind(row_study(100), 1).watch), 200)
            self.refused(TooMany, {"what": "states", "most": 200}, kind, row_study(101), 1)
            self.refused(TooMany, {"what": "states", "most": 200}, kind, row_study(67), 2)
            self.refused(TooMany, {"what": "states", "most": 200}, kind, row_study(101, 41), 1)
            self.assertEqual(len(kind(row_study(200), 0).watch), 200)
            self.assertEqual(len(kind(row_study(20, 20), 1).crowds), 40)
            self.refused(TooMany, {"what": "arms", "most": 40}, kind, row_study(21, 21), 1)
            self.assertEqual(len(kind(row_study(40, 40), 0).crowds), 40)
            self.refused(TooMany, {"what": "arms", "most": 40}, kind, row_study(41, 41), 0)
            six = [f"x{at}" for at in range(6)]
            self.assertEqual(len(kind(row_study(2, 1, six), 1).crowds[0][1].signs), 12)
            self.refused(TooMany, {"what": "signs", "most": 12}, kind, row_study(2, 1, [*six, "y"]), 1)
            self.assertEqual(len(kind(row_study(2, 1, [*six, "y"]), 0).watch), 2)
            self.refused(TooMany, {"what": "arms", "most": 40}, kind, row_study(21, 21, [*six, "y"]), 1)
        self.assertEqual(len(Lost(row_study(40, 40), None).crowds), 40)
        self.refused(TooMany, {"what": "arms", "most": 40}, Lost, row_study(41, 41), None)
        self.assertEqual(len(Lost(row_study(200), None).watch), 200)

    def test_corners(self):
        third = [Ratio(1, 3)] * 3
        signs = ("a", "b", "c")
        for kind in (Lost, Doubled):
            study = Study(labelled(signs=signs).watch, {"a": Crowd(signs, [third] * 12)})
            self.assertEqual(len(kind(study, 1).crowds[0][1]), 96)
            self.refused(TooMany, {"what": "corners", "most": 96}, kind, study.with_crowd("a", Crowd(signs, [third] * 13)), 1)
            self.refused(TooMany, {"what": "corners", "most": 96}, kind,
                         study.with_crowd("a", Crowd(signs, [third] * 12 + [[1, 0, 0]])), 1)
            self.assertEqual(len(kind(study.with_crowd("a", Crowd(signs, [third] * 13)), 0).crowds[0][1]), 13)
            wide = [f"x{at}" for at in range(12)]
            wide = Study(labelled(signs=wide).watch, {"a": Crowd(wide, [[Ratio(1, 12)] * 12] * 96)})
            self.refused(TooMany, {"what": "signs", "most": 12}, kind, wide, 1)
            seven = [f"x{at}" for at in range(7)]
            seven = Study(labelled(signs=seven[:6]).watch, {"a": Crowd(seven[:6], [[Ratio(1, 6)] * 6] * 2)})
            self.refused(TooMany, {"what": "corners", "most": 96}, kind, seven, 2)
        self.assertEqual(len(Lost(Study(labelled().watch, {"a": Crowd(PAIR, [[HALF, HALF]] * 24)}), None).crowds[0][1]), 96)
        self.refused(TooMany, {"what": "corners", "most": 96}, Lost,
                     Study(labelled().watch, {"a": Crowd(PAIR, [[HALF, HALF]] * 24 + [[1, 0]])}), None)

    def test_labels(self):
        six, five = "a.b.c.d.e.f", "a.b.c.d.e"
        for kind in (Lost, Doubled):
            self.assertEqual(kind(labelled(five, five, (five, "x"), ("a.b.c.d.e.g", "dark"))).states[0][:9], five)
            for study in (labelled(state=six), labelled(arm=six), labelled(signs=(six, "x"))):
                self.refused(TooMany, {"what": "names", "most": 6}, kind, study)
            self.assertEqual(len(kind(labelled(signs=(six, "x")), 0).watch), 1)
            self.refused(TooMany, {"what": "names", "most": 6}, kind, labelled(state=six), 0)
        self.assertEqual(Lost(labelled(state=six), None).states, (six,))
        self.refused(TooMany, {"what": "names", "most": 6}, Lost, labelled(arm=six), None)

    def test_labels_that_meet(self):
        for kind, word, letter in ((Lost, "lost", "l"), (Doubled, "twice", "t")):
            signs = ("x", f"y.{word}", f"x.{word}", "y")
            self.refused(Twice, {"name": f"x.{word}"}, kind, labelled(signs=signs))
            self.refused(Twice, {"name": f"y.{word}"}, kind, labelled(signs=("x", f"y.{word}", "y")))
            self.assertEqual(len(kind(labelled(signs=signs), 0).watch), 1)
            self.refused(Twice, {"name": f"s.{letter}1"}, kind, labelled(ends=("lit", f"s.{letter}1", f"s.{letter}0")))
            self.refused(Twice, {"name": f"s.{letter}0"}, kind, labelled(ends=("lit", f"s.{letter}0")))
            self.refused(Twice, {"name": f"s.{letter}0"}, kind, labelled(ends=("lit", f"s.{letter}0")), 0)
            self.refused(Twice, {"name": f"x.{word}"}, kind, labelled(signs=signs, ends=("lit", f"s.{letter}1")))
            self.refused(TooMany, {"what": "names", "most": 6}, kind, labelled("a.b.c.d.e.f", signs=signs))
        self.assertEqual(Lost(labelled(ends=("lit", "s.l1")), None).watch.states, ("s",))


class MisreadTest(Case):
    def test_one_table_for_all_that_fit(self):
        arms = {"a": PAIR, "b": PAIR[::-1], "c": PAIR}
        lines = [("p", "a", ("q", "lit")), ("q", "b", ("r", "lit")), ("r", "c", ("p", "lit"))]
        study = Study(Watch(arms, ["lit"], lines), {arm: Crowd.between(signs, Ratio(1, 4), HALF) for arm, signs in arms.items()})
        table = Table(PAIR, PAIR, [(HALF, HALF), (0, 1)])
        found = dict(misread(study, table).crowds)
        self.assertEqual([found[arm].corners for arm in "abc"],
                         [(dict(study.crowds)[arm] * table if arm != "b" else dict(study.crowds)[arm]).corners for arm in "abc"])
        self.assertEqual(misread(study, {"a": table, "c": table}), misread(study, table))
        self.assertEqual(Misread(study, table), Misread(study, {"a": table, "c": table}))
        self.assertEqual((misread(study, {}), misread(study=study, tables={}).crowds), (study, study.crowds))
        self.assertEqual(Misread(tables=table, study=study).watch.signs_of("q"), ("miss.miss", "hit.hit"))
        self.assertEqual(Misread(study, table).watch.signs_of("p"), ("hit.hit", "hit.miss", "miss.miss"))
        self.assertEqual(Misread(study, table).crowds[0][1].corners[0], (Ratio(1, 8), Ratio(1, 8), Ratio(3, 4)))

    def test_errors_in_their_order(self):
        table = Table.same(PAIR)
        turned, wide = Table.same(PAIR[::-1]), Table(PAIR, (*PAIR, "edge"), [(1, 0, 0), (0, 1, 0)])
        for call in (misread, Misread):
            for value in [*ANY_VALUES, HITS]:
                self.refused(BadStudy, {"part": "study"}, call, value, value)
            for value in [*[value for value in ANY_VALUES if value != {}], {None: table}, {"coin": None}, {"x": 5}, {5: table},
                          {"coin": table, 1: table}, [("coin", table)]]:
                self.refused(BadTable, {"part": "tables"}, call, EVEN, value)
            self.refused(NoArm, {"name": ""}, call, EVEN, {"zz": table, "": table, "coin": turned})
            self.refused(NoArm, {"name": "A"}, call, EVEN, {"b": table, "A": table})
            for value in (turned, wide, Table.same(("x", "y")), {"coin": turned}, {"coin": wide}, Table(PAIR, PAIR[::-1], [(1, 0), (0, 1)]),
                          {"coin": Table(PAIR, PAIR[::-1], [(1, 0), (0, 1)])}):
                self.refused(BadTable, {"part": "signs"}, call, EVEN, value)

    def test_limits(self):
        four = ("p", "q", "r", "s")
        mixed = Table(four, four, [[Ratio(1, 4)] * 4, [Ratio(1, 4)] * 4, [HALF, HALF, 0, 0], [HALF, HALF, 0, 0]])
        self.assertEqual(len(Misread(labelled(signs=four), mixed).crowds[0][1].signs), 12)
        more = Table(four, four, [[Ratio(1, 4)] * 4] * 3 + [[0, 0, 0, 1]])
        self.refused(TooMany, {"what": "signs", "most": 12}, Misread, labelled(signs=four), more)
        long = ("a.b.c", "a.b.c.d")
        self.refused(TooMany, {"what": "names", "most": 6}, Misread, labelled(signs=long), {})
        self.assertEqual(len(misread(labelled(signs=long), {}).watch), 1)
        self.assertEqual(Misread(labelled(signs=long[:1]), {}).watch.signs_of("s"), ("a.b.c.a.b.c",))
        meet = ("a", "b.c", "a.b", "c")
        table = Table(meet, meet, [[0, 1, 0, 0], [0, 1, 0, 0], [0, 0, 0, 1], [0, 0, 0, 1]])
        self.refused(Twice, {"name": "a.b.c"}, Misread, labelled(signs=meet), table)
        self.assertEqual(len(Misread(row_study(41, 41), {}).crowds), 41)
        wide = Table(four, four, [[Ratio(1, 4)] * 4] * 4)
        long_signs = ("a.b.c.d", "q", "r", "s")
        self.refused(TooMany, {"what": "signs", "most": 12}, Misread, labelled(signs=long_signs),
                     Table(long_signs, long_signs, wide.lines))


if __name__ == "__main__":
    unittest.main()

import unittest

from peekproof.costs import Costs
from peekproof.crowds import Crowd
from peekproof.dearest import dearest
from peekproof.errors import BadCosts, BadNest, BadStudy, NoArm, TooMany, Twice, Unsure
from peekproof.greatest import greatest
from peekproof.least import least
from peekproof.nests import flat_costs, flattened, nested, outer_row
from peekproof.ratios import Ratio
from peekproof.shapes import shape_of
from peekproof.studies import Study
from peekproof.sure import sure
from peekproof.watches import Watch
from tests.shape_oracle import outer_walk
from tests.support import ANY_VALUES, Case, drawn_crowd, drawn_study, rng_of
from tests.test_costs import drawn_costs
from tests.test_shapes import TURNING, one_draw, round_rows

HALF = Ratio(1, 2)
RUNS = Watch({"test": ["lit", "dark"]}, ["lit", "dark"], [("one", "test", ["lit", "two"]), ("two", "test", ["lit", "dark"])])
OUTER = Study(RUNS, {"test": Crowd.all_sure(["lit", "dark"])})
INNER = Study(Watch({"run": ["sale", "miss"]}, ["lit", "dark"],
                    [("a", "run", ["dark", "b"]), ("b", "run", ["lit", "dark"])]), {"run": TURNING})
TEST = {"test": ("dim", "lit", "dark"), "coin": ("hit", "miss")}
WIDE = Study(Watch(TEST, ["lit", "dark"], [("p", "coin", ("q", "dark")), ("q", "test", ("p", "lit", "r")),
                                           ("r", "coin", ("lit", "q")), ("t", "test", ("t", "p", "q"))]),
             {"test": Crowd.all_sure(TEST["test"]), "coin": Crowd.between(("hit", "miss"), Ratio(1, 4), HALF)})


def drawn_pair(rng):
    """A study, and inner studies for some of its arms that name ends out of the arm's signs."""
    arms = {"coin": ("hit", "miss"), "die": ("c", "a", "b")}
    study = drawn_study(rng, rng.randint(1, 3), 2, arms, most=2)
    inners = {}
    for arm, signs in study.watch.arms:
        if rng.randrange(3):
            ends = tuple(rng.sample(signs, rng.randint(1, len(signs))))
            inners[arm] = drawn_study(rng, rng.randint(1, 3), 2, {"one": ("u", "v"), "two": ("v", "w", "u")}, ends, most=2)
    return study, inners


def plain(many, arms=None):
    """A study with so many states that all ask one arm, or so many arms."""
    names = [f"a{at if arms else 0}" for at in range(many)]
    lines = [(f"q{at}", names[at], (f"q{at + 1}" if at < many - 1 else "lit", "dark")) for at in range(many)]
    return Study(Watch({name: ("lit", "dark") for name in names}, ["lit", "dark"], lines),
                 {name: Crowd.between(("lit", "dark"), HALF, 1) for name in names})


class NestTest(Case):
    def test_example(self):
        near, flat = nested(OUTER, {"test": INNER}), flattened(OUTER, {"test": INNER})
        self.assertEqual(repr([flat.states, greatest(near).number, greatest(flat).number]),
                         "[('one.a', 'two.a', 'one.b', 'two.b'), 207/256, 207/256]")

    def test_nested(self):
        near = nested(WIDE, {"test": INNER})
        self.assertEqual((near.watch, dict(near.crowds)["coin"].corners), (WIDE.watch, dict(WIDE.crowds)["coin"].corners))
        shape = shape_of(INNER)
        self.assertEqual(dict(near.crowds)["test"].corners, tuple((0, *corner) for corner in shape))
        self.assertEqual(nested(study=WIDE, inners={}), WIDE)

    def test_signs_in_another_order(self):
        inner = one_draw([[HALF, HALF, 0], [0, Ratio(1, 3), Ratio(2, 3)]], ("z", "y", "x"))
        watch = Watch({"t": ("w", "x", "y", "z")}, ["lit"], [("s", "t", ("lit", "s", "s", "s"))])
        near = nested(Study(watch, {"t": Crowd.all_sure(("w", "x", "y", "z"))}), {"t": inner})
        self.assertEqual(near.crowds[0][1].corners, ((0, Ratio(2, 3), Ratio(1, 3), 0), (0, 0, HALF, HALF)))

    def test_flattened(self):
        flat = flattened(WIDE, {"test": INNER})
        self.assertEqual(str(flat.watch), "coin : hit miss / test.run : sale miss / lit dark / p coin : q.a dark / "
                                          "q.a test.run : r q.b / q.b test.run : lit r / r coin : lit q.a / "
                                          "t.a test.run : q.a t.b / t.b test.run : p q.a")
        self.assertEqual(flat.crowds, (("coin", dict(WIDE.crowds)["coin"]), ("test.run", TURNING)))
        self.assertEqual(flat.states, ("p", "q.a", "r", "q.b"))
        self.assertEqual(flattened(study=WIDE, inners={}), WIDE)

    def test_drawn_pairs(self):
        rng = rng_of(71)
        found = {"sure": 0, "loose": 0}
        for _ in range(150):
            study, inners = drawn_pair(rng)
            flat = flattened(study, inners)
            self.assertEqual(flat.watch.states, tuple(
                label for state in study.watch for label in ([f"{state}.{inner}" for inner in inners[study.watch.arm_of(state)]
                                                              .watch] if study.watch.arm_of(state) in inners else [state])))
            if not all([sure(inner) for inner in inners.values()]):
                continue
            near = nested(study, inners)
            worths = rng.choice([None, {"lit": 1, "dark": 3}, {"lit": HALF, "dark": 0}])
            most, flat_most = greatest(near, worths), greatest(flat, worths)
            self.assertEqual(bool(sure(near)), bool(sure(flat)))
            self.assertEqual(most.number, flat_most.number)
            for state in set(near.states) & set(study.watch.states):
                inner = inners.get(study.watch.arm_of(state))
                label = state if inner is None else f"{state}.{inner.watch.first}"
                if label in flat:
                    self.assertEqual(most.at(state), flat_most.at(label))
            found["sure" if sure(near) else "loose"] += 1
            if sure(near):
                self.assertEqual(least(near, worths).number, least(flat, worths).number)
                self.assertEqual(shape_of(near).corners, shape_of(flat).corners)
        self.assertTrue(min(found.values()) > 5, found)

    def test_nests_of_nests(self):
        rng = rng_of(72)
        arms = {"x": ("s", "m"), "z": ("s", "m")}
        done = 0
        for _ in range(60):
            study = drawn_study(rng, 2, 2, arms, most=2)
            inner = drawn_study(rng, 2, 2, {"y": ("k", "l"), "w": ("k", "l")}, ("m", "s"), most=2)
            third = drawn_study(rng, 2, 2, {"c": ("hit", "miss")}, ("k", "l"), most=2)
            if "x" not in dict(study.watch.arms) or "y" not in dict(inner.watch.arms):
                continue
            deep = flattened(flattened(study, {"x": inner}), {"x.y": third})
            self.assertEqual(flattened(study, {"x": flattened(inner, {"y": third})}), deep)
            if sure(third):
                done += 1
                self.assertEqual(flattened(study, {"x": nested(inner, {"y": third})}),
                                 nested(flattened(study, {"x": inner}), {"x.y": third}))
        self.assertGreater(done, 5)

    def test_inner_studies_need_not_be_sure(self):
        loose = Study(INNER.watch, {"run": Crowd.between(("sale", "miss"), 0, 1)})
        lines = [("a", "run", ("a", "lit"))]
        loose = Study(Watch({"run": ("sale", "miss")}, ["lit"], lines), {"run": Crowd.between(("sale", "miss"), 0, 1)})
        self.assertEqual(greatest(flattened(OUTER, {"test": loose})).number, 1)
        self.refused(Unsure, {"trap": sure(loose)}, nested, OUTER, {"test": loose})

    def test_errors_of_shapes_come_arm_by_arm(self):
        watch = Watch({"b": ("x", "y", "z"), "a": ("lit", "dark")}, ["lit"], [("s", "b", ("t", "t", "t")), ("t", "a", ("lit", "s"))])
        study = Study(watch, {"b": Crowd.all_sure(("x", "y", "z")), "a": Crowd.all_sure(("lit", "dark"))})
        round_one, long = one_draw(round_rows(25)), plain(17)
        self.refused(TooMany, {"what": "corners", "most": 24}, nested, study, {"a": long, "b": round_one})
        self.refused(TooMany, {"what": "states", "most": 16}, nested, study, {"a": long, "b": one_draw(round_rows(24))})
        self.assertEqual(len(dict(nested(study, {"b": one_draw(round_rows(24))}).crowds)["b"]), 24)
        dim = Study(Watch({"c": ("u", "v")}, ["w", "x", "y", "z"], [("s", "c", ("w", "x"))]), {"c": Crowd(("u", "v"), [[1, 0]])})
        four = Study(Watch({"t": ("w", "x", "y", "z")}, ["lit"], [("s", "t", ["lit"] * 4)]),
                     {"t": Crowd.all_sure(("w", "x", "y", "z"))})
        self.refused(TooMany, {"what": "ends", "most": 3}, nested, four, {"t": dim})
        self.assertEqual(greatest(flattened(four, {"t": dim})).number, 1)


class ErrorsTest(Case):
    def calls(self):
        costs = Costs.each_trial(OUTER.watch)
        return [nested, flattened, lambda study, inners: outer_row(study, inners, ()),
                lambda study, inners: flat_costs(study, inners, costs, {})]

    def test_bad_parts(self):
        other = one_draw([[1, 0, 0]])
        for call in self.calls():
            for value in [*ANY_VALUES, RUNS]:
                self.refused(BadStudy, {"part": "study"}, call, value, value)
            for value in [*[value for value in ANY_VALUES if value != {}], {"test": None}, {"test": RUNS}, {None: INNER},
                          {"": INNER}, {"Test": INNER}, {"test": INNER, 5: INNER}, [("test", INNER)], {"x": 1}]:
                self.refused(BadNest, {"part": "inners"}, call, OUTER, value)
            self.refused(NoArm, {"name": "a"}, call, OUTER, {"test": other, "b": INNER, "a": INNER})
            self.refused(NoArm, {"name": "test.a"}, call, OUTER, {"test.a": INNER, "zz": INNER})
            self.refused(BadNest, {"part": "ends"}, call, OUTER, {"test": other})
        dim = Study(Watch({"run": ("sale", "miss")}, ["lit", "dim"], [("a", "run", ("lit", "lit"))]), {"run": TURNING})
        self.refused(BadNest, {"part": "ends"}, flattened, OUTER, {"test": dim})

    def test_labels_that_grow_too_long(self):
        state = "a.b.c.d.e"
        long = Study(Watch({"test": ("lit", "dark")}, ["lit"], [(state, "test", ("lit", state))]), dict(OUTER.crowds))
        self.assertEqual(flattened(long, {"test": INNER}).states[0], "a.b.c.d.e.a")
        six = Study(Watch({"test": ("lit", "dark")}, ["lit"], [("a.b.c.d.e.f", "test", ("lit", "lit"))]), dict(OUTER.crowds))
        arm = Study(Watch({"a.b.c.d.e.f": ("lit", "dark")}, ["lit"], [("s", "a.b.c.d.e.f", ("lit", "lit"))]),
                    {"a.b.c.d.e.f": Crowd.all_sure(("lit", "dark"))})
        for call in (flattened, lambda study, inners: outer_row(study, inners, None)):
            self.refused(TooMany, {"what": "names", "most": 6}, call, six, {"test": INNER})
            self.refused(TooMany, {"what": "names", "most": 6}, call, arm, {"a.b.c.d.e.f": INNER})
        deep = Study(Watch({"run.c": ("x", "y")}, ["lit"], [("i.j", "run.c", ("lit", "lit"))]), {"run.c": Crowd.all_sure(("x", "y"))})
        self.refused(TooMany, {"what": "names", "most": 6}, flattened, long, {"test": deep})
        self.assertEqual(nested(six, {"test": INNER}).states, ("a.b.c.d.e.f",))

    def test_labels_that_meet(self):
        crowds = {"t": Crowd.all_sure(("lit", "dark")), "u": Crowd.all_sure(("lit", "dark")),
                  "t.run": Crowd.all_sure(("lit", "dark"))}
        arms = {arm: ("lit", "dark") for arm in crowds}

        def study(ends, *lines):
            asked = [arm for _, arm, _ in lines]
            return Study(Watch({arm: arms[arm] for arm in asked}, ends, lines), {arm: crowds[arm] for arm in asked})
        meet = study(["lit"], ("s", "t", ("lit", "s")), ("s.b", "u", ("lit", "lit")), ("s.a", "u", ("lit", "lit")))
        self.refused(Twice, {"name": "s.b"}, flattened, meet, {"t": INNER})
        ahead = study(["lit"], ("s.b", "u", ("lit", "s")), ("s", "t", ("lit", "s")), ("s.a", "u", ("lit", "lit")))
        self.refused(Twice, {"name": "s.b"}, flattened, ahead, {"t": INNER})
        end = study(["lit", "s.b"], ("s", "t", ("lit", "s.b")), ("s.a", "u", ("s", "s")))
        self.refused(Twice, {"name": "s.b"}, flattened, end, {"t": INNER})
        arm = study(["lit"], ("s", "t.run", ("lit", "s")), ("r", "t", ("lit", "s")))
        self.refused(Twice, {"name": "t.run"}, flattened, arm, {"t": INNER})
        both = study(["lit"], ("s", "t.run", ("lit", "s")), ("r", "t", ("lit", "s")), ("r.b", "u", ("s", "s")))
        self.refused(Twice, {"name": "r.b"}, flattened, both, {"t": INNER})
        self.assertEqual(flattened(arm, {"t.run": INNER}).watch.states, ("s.a", "s.b", "r"))

    def test_sizes(self):
        self.assertEqual(len(flattened(plain(100), {"a0": INNER}).watch), 200)
        self.refused(TooMany, {"what": "states", "most": 200}, flattened, plain(101), {"a0": INNER})
        mixed = plain(100).watch
        lines = [(state, "b0" if state == "q99" else "a0", mixed.places_of(state)) for state in mixed]
        wide = Study(Watch({arm: ("lit", "dark") for arm in ("a0", "b0")}, ["lit", "dark"], lines),
                     {arm: Crowd.all_sure(("lit", "dark")) for arm in ("a0", "b0")})
        three = Study(Watch({"c": ("x", "y")}, ["lit"], [(state, "c", ("lit", "lit")) for state in "xyz"]), {"c": Crowd.all_sure("x y".split())})
        self.refused(TooMany, {"what": "states", "most": 200}, flattened, wide, {"a0": INNER, "b0": three})
        self.assertEqual(len(flattened(wide, {"a0": INNER}).watch), 199)
        self.assertEqual(len(flattened(plain(40, True), {}).crowds), 40)
        self.refused(TooMany, {"what": "arms", "most": 40}, flattened, plain(41, True), {})
        self.refused(TooMany, {"what": "states", "most": 200}, flattened, plain(101, True),
                     {f"a{at}": INNER for at in range(101)})
        self.assertEqual(len(flattened(plain(40, True), {f"a{at}": INNER for at in range(40)}).watch), 80)
        two = Study(Watch({"run": ("x", "y"), "go": ("x", "y")}, ["lit", "dark"], [("a", "run", ("b", "b")),
                                                                                ("b", "go", ("lit", "dark"))]),
                    {"run": Crowd.all_sure(("x", "y")), "go": Crowd.all_sure(("x", "y"))})
        self.refused(TooMany, {"what": "arms", "most": 40}, flattened, plain(40, True), {"a7": two})


class RowTest(Case):
    def test_plain_rows(self):
        inners = {"test": INNER}
        for row, shown in (((), ()), (("hit",), ("hit",)), (["hit", "sale"], ("hit", "dark")),
                           (("hit", "miss", "sale"), ("hit", "lit")), (("hit", "miss"), ("hit",)),
                           (("hit", "sale", "miss", "sale", "hit"), ("hit", "dark", "miss", "dark", "hit"))):
            self.assertEqual(outer_row(WIDE, inners, row), shown)
        for row in [*[value for value in ANY_VALUES if value not in ((), [])], ("sale",), ("miss", "hit"), ("hit", "dark"),
                    ("hit", "miss", "sale", "hit"), ("hit", None), ("hit", [])]:
            self.refused(BadNest, {"part": "row"}, outer_row, WIDE, inners, row)
        self.assertEqual(outer_row(study=WIDE, inners={}, row=["hit", "dim", "hit"]), ("hit", "dim", "hit"))

    def test_drawn_rows(self):
        rng = rng_of(73)
        for _ in range(120):
            study, inners = drawn_pair(rng)
            flat = flattened(study, inners).watch
            row, place = [], flat.first
            while place in flat and len(row) < 12:
                sign = rng.choice(flat.signs_of(place))
                row.append(sign)
                place = flat.place(place, sign)
                shown, state, inside = outer_walk(study, inners, row)
                self.assertEqual(outer_row(study, inners, row), shown)
                arm = study.watch.arm_of(state) if state in study.watch else None
                label = state if arm not in inners else f"{state}.{inside or inners[arm].watch.first}"
                self.assertEqual(place, label)
                self.assertEqual(study.watch.after(shown), state)
            self.refused(BadNest, {"part": "row"}, outer_row, study, inners, [*row, "x"])


class CostsTest(Case):
    def test_plain_costs(self):
        costs = Costs(OUTER.watch, {"one": {"lit": 5}, "two": {"dark": 7}})
        inner = Costs.of(INNER.watch, {"sale": 1, "miss": 2})
        flat = flat_costs(OUTER, {"test": INNER}, costs, {"test": inner})
        self.assertEqual(str(flat), "one.a sale 1 miss 2 ; one.b sale 6 miss 2 ; two.a sale 8 miss 2 ; two.b sale 1 miss 9")
        self.assertEqual(str(flat_costs(OUTER, {"test": INNER}, costs, {})), "one.b sale 5 ; two.a sale 7 ; two.b miss 7")
        self.assertEqual(flat_costs(study=OUTER, inners={}, costs=costs, inner_costs={}), costs)
        self.assertEqual(flat.watch, flattened(OUTER, {"test": INNER}).watch)

    def test_what_is_spent_on_both(self):
        rng = rng_of(74)
        done = 0
        for _ in range(80):
            study, inners = drawn_pair(rng)
            if not all([sure(inner) for inner in inners.values()]):
                continue
            costs = drawn_costs(rng, study.watch)
            near, flat = nested(study, inners), flattened(study, inners)
            one = dearest(near, costs)
            other = dearest(flat, flat_costs(study, inners, costs, {}))
            done += 1
            self.assertEqual(one.word, other.word)
            if one:
                self.assertEqual(one.number, other.number)
        self.assertGreater(done, 20)

    def test_errors_in_their_order(self):
        costs, inner = Costs.each_trial(OUTER.watch), Costs.each_trial(INNER.watch)
        for value in [*ANY_VALUES, inner, OUTER.watch]:
            self.refused(BadCosts, {"part": "costs"}, flat_costs, OUTER, {"zz": INNER}, value, value)
        for value in [*[value for value in ANY_VALUES if value != {}], {"test": costs}, {"zz": inner}, {"test": None},
                      {None: inner}, [("test", inner)], {"test": inner, "x": inner}]:
            self.refused(BadCosts, {"part": "inner_costs"}, flat_costs, OUTER, {"test": INNER}, costs, value)
        self.refused(BadNest, {"part": "inners"}, flat_costs, OUTER, {"test": 1}, 5, 5)
        self.refused(NoArm, {"name": "zz"}, flat_costs, OUTER, {"zz": INNER}, costs, {"zz": inner})
        long = plain(101)
        self.refused(TooMany, {"what": "states", "most": 200}, flat_costs, long, {"a0": INNER}, Costs.each_trial(long.watch), {})


if __name__ == "__main__":
    unittest.main()

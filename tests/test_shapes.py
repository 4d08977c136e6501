import unittest

from peekproof.check_shapes import shows_shape
from peekproof.crowds import Crowd
from peekproof.errors import BadStudy, TooMany, Unsure
from peekproof.greatest import greatest
from peekproof.papers import Paper
from peekproof.ratios import Ratio
from peekproof.shapes import Shape, Side, shape_of
from peekproof.studies import Study
from peekproof.sure import sure
from peekproof.watches import Watch
from tests.paper_oracle import bent_paper, is_shape
from tests.shape_oracle import corners, greatest_mean
from tests.study_oracle import number
from tests.support import ANY_VALUES, Case, drawn_crowd, drawn_study, rng_of
from tests.test_solved import QUARTER, TURN

HALF = Ratio(1, 2)
TURNING = Crowd.between(("sale", "miss"), Ratio(1, 4), Ratio(3, 4))
TWICE = Watch({"run": ["sale", "miss"]}, ["both", "one", "none"],
              [("first", "run", ["once", "never"]), ("once", "run", ["both", "one"]), ("never", "run", ["one", "none"])])
PAIR = Study(TWICE, {"run": TURNING})
THREE = ("x", "y", "z")
ARMS = {"coin": ("hit", "miss"), "die": ("a", "b", "c"), "top": ("u", "v")}


def one_draw(rows, ends=THREE):
    """The study that draws its end at once, by these chances."""
    watch = Watch({"die": ("a", "b", "c")[:len(ends)]}, ends, [("s", "die", ends)])
    return Study(watch, {"die": Crowd(("a", "b", "c")[:len(ends)], rows)})


def round_rows(many):
    """Chances on a parabola: none of them is a mixture of the others."""
    return [[Ratio(at, 40), Ratio(at * at, 1600), Ratio(1) - Ratio(at, 40) - Ratio(at * at, 1600)]
            for at in range(many)]


def drawn_ahead_study(rng, many):
    """A study with three ends whose states, with an arm each, lead to later ones and to ends alone."""
    labels = [f"q{at}" for at in range(many)]
    lines = [(label, f"a{at}", [rng.choice([*labels[at + 1:], *labels[at + 1:], *THREE]) for _ in range(3)])
             for at, label in enumerate(labels)]
    watch = Watch({arm: ("a", "b", "c") for _, arm, _ in lines}, THREE, lines)
    return Study(watch, {arm: drawn_crowd(rng, ("a", "b", "c"), rng.randint(1, 3)) for _, arm, _ in lines})


def drawn_sure_study(rng, many=4, ends=3):
    while True:
        study = drawn_study(rng, rng.randint(1, many), rng.randint(1, 5), ARMS, THREE[:rng.randint(1, ends)],
                            most=rng.randint(1, 4))
        worlds = 1
        for state in study.states:
            worlds *= len(study.corners_of(state))
        if sure(study) and worlds <= 60:
            return study


def fractions(rows):
    return [tuple(number(value) for value in row) for row in rows]


class ShapeTest(Case):
    def test_example(self):
        self.assertEqual(repr(list(shape_of(PAIR))),
                         "[(1/16, 3/8, 9/16), (1/16, 3/4, 3/16), (3/16, 1/4, 9/16), (3/16, 3/4, 1/16), "
                         "(9/16, 1/4, 3/16), (9/16, 3/8, 1/16)]")

    def test_attributes(self):
        shape = shape_of(PAIR)
        self.assertEqual((shape.ends, len(shape), list(shape)), (("both", "one", "none"), 6, list(shape.corners)))
        self.assertEqual(shape.ranks, sure(PAIR).ranks)
        self.assertEqual((Shape.MOST_ENDS, Shape.MOST_STATES, Shape.MOST_CORNERS), (3, 16, 24))
        self.assertEqual(shape.as_crowd(), Crowd(shape.ends, shape.corners))
        self.assertEqual(shape.as_crowd().corners, shape.corners)
        self.assertEqual(shape, Shape(*shape.parts))
        self.assertTrue(shape)
        for side in shape.sides:
            self.assertEqual(side, Side(*side.parts))
            self.assertEqual((side.worths, side.number, side.table), side.parts)
            self.all_ratios([side.number, *dict(side.table).values()])
        self.all_ratios([value for corner in shape for value in corner])
        self.all_ratios([value for world in shape.worlds for _, (_, row) in world for value in row])

    def test_one_end(self):
        shape = shape_of(one_draw([[1]], ("x",)))
        self.assertEqual(shape, Shape(("x",), [(1,)], [{"s": (0, (1,))}], [], {"s": 1}))
        self.assertTrue((1,) in shape and [Ratio(1)] in shape)
        self.assertFalse((0,) in shape or (1, 0) in shape)

    def test_two_ends(self):
        shape = shape_of(QUARTER)
        self.assertEqual(list(shape), [(Ratio(1, 16), Ratio(15, 16)), (Ratio(9, 16), Ratio(7, 16))])
        self.assertEqual([side.worths for side in shape.sides], [(0, 1), (1, 0)])
        self.assertEqual([side.number for side in shape.sides], [Ratio(15, 16), Ratio(9, 16)])
        point = shape_of(one_draw([[HALF, HALF], [HALF, HALF]], ("x", "y")))
        self.assertEqual((list(point), [side.worths for side in point.sides]), ([(HALF, HALF)], [(0, 1), (1, 0)]))
        self.assertEqual(point.sides, (Side((0, 1), HALF, {"s": HALF}), Side((1, 0), HALF, {"s": HALF})))

    def test_ends_that_are_not_come_to(self):
        shape = shape_of(Study(Watch(dict(TURN.arms), ["dim", *TURN.ends],
                                     [(state, "coin", TURN.places_of(state)) for state in TURN]), dict(QUARTER.crowds)))
        self.assertEqual(list(shape), [(0, Ratio(1, 16), Ratio(15, 16)), (0, Ratio(9, 16), Ratio(7, 16))])
        self.assertEqual([side.worths for side in shape.sides], [(0, 0, 1), (0, 1, 0), (0, 1, 1), (1, 0, 0)])
        self.assertEqual([side.number for side in shape.sides], [Ratio(15, 16), Ratio(9, 16), 1, 0])

    def test_three_ends_and_a_point(self):
        shape = shape_of(one_draw([[HALF, HALF, 0]]))
        self.assertEqual([(side.worths, side.number) for side in shape.sides],
                         [((0, 0, 1), 0), ((0, 1, 0), HALF), ((1, 0, 0), HALF)])
        self.assertTrue((HALF, HALF, 0) in shape)
        self.assertFalse((HALF, Ratio(1, 4), Ratio(1, 4)) in shape)

    def test_three_ends_and_a_line(self):
        shape = shape_of(one_draw([[HALF, HALF, 0], [Ratio(1, 4), HALF, Ratio(1, 4)], [0, HALF, HALF]]))
        self.assertEqual(list(shape), [(0, HALF, HALF), (HALF, HALF, 0)])
        self.assertEqual([side.worths for side in shape.sides], [(0, 0, 1), (0, 1, 0), (1, 0, 0), (1, 0, 1)])
        slope = shape_of(one_draw([[Ratio(1, 2), Ratio(1, 3), Ratio(1, 6)], [Ratio(1, 6), Ratio(1, 2), Ratio(1, 3)]]))
        self.assertEqual([side.worths for side in slope.sides], [(0, 1, 0), (1, 0, 0), (1, 0, 2), (1, 2, 0)])

    def test_what_lies_within(self):
        shape = shape_of(PAIR)
        rng = rng_of(61)
        for corner in shape:
            self.assertTrue(corner in shape and list(corner) in shape)
        for _ in range(60):
            shares = [Ratio(rng.randint(0, 8), 1) for _ in range(3)]
            total = shares[0] + shares[1] + shares[2]
            if total:
                row = tuple(share.over(total) for share in shares)
                bars = any(sum((number(share) * worth for share, worth in zip(row, side.worths)), 0) > number(side.number)
                           for side in shape.sides)
                self.assertIs(row in shape, not bars)
        for value in [*ANY_VALUES, (1, 0), (1, 0, 0), (HALF, HALF, HALF), (HALF, HALF), (True, 0, 0), ("a", "b", "c"),
                      (Ratio(3, 2), Ratio(-1, 2), 0)]:
            self.assertIs(value in shape, False)

    def test_drawn_studies(self):
        rng = rng_of(62)
        sizes = {}
        for _ in range(160):
            study = drawn_sure_study(rng)
            shape = shape_of(study)
            wanted = corners(study)
            self.assertEqual(fractions(shape), wanted)
            sizes[len(study.watch.ends), len(wanted)] = True
            self.assertTrue(shows_shape(study, shape) and is_shape(study, shape))
            for side in shape.sides:
                worths = dict(zip(shape.ends, side.worths))
                self.assertEqual(side.table, greatest(study, worths).table)
                self.assertEqual(number(side.number), greatest_mean(study, side.worths))
            self.assertEqual(shape_of(study), shape)
        for _ in range(60):
            study = drawn_ahead_study(rng, rng.randint(1, 3))
            shape = shape_of(study)
            self.assertEqual(fractions(shape), corners(study))
            sizes[3, len(shape)] = True
            self.assertTrue(shows_shape(study, shape) and is_shape(study, shape))
        self.assertTrue({(1, 1), (2, 1), (2, 2), (3, 1), (3, 2), (3, 3), (3, 4), (3, 5)} <= set(sizes), sizes)

    def test_many_corners(self):
        for many in (3, 24):
            shape = shape_of(one_draw(round_rows(many)[::-1]))
            self.assertEqual(list(shape), [tuple(row) for row in round_rows(many)])
            self.assertEqual(len(shape.sides), many)
            self.assertTrue(shows_shape(one_draw(round_rows(many)[::-1]), shape))
        self.refused(TooMany, {"what": "corners", "most": 24}, shape_of, one_draw(round_rows(25)))

    def test_errors_in_their_order(self):
        for value in [*ANY_VALUES, TURN]:
            self.refused(BadStudy, {"part": "study"}, shape_of, value)
        lines = [(f"q{at}", "coin", (f"q{at + 1}" if at < 16 else "lit", "dark")) for at in range(17)]
        crowd = Crowd.between(("hit", "miss"), HALF, 1)
        many = Study(Watch({"coin": ("hit", "miss")}, ["lit", "dark"], lines), {"coin": crowd})
        self.refused(TooMany, {"what": "states", "most": 16}, shape_of, many)
        wide = Study(Watch({"coin": ("hit", "miss")}, ["lit", "dark", "a", "b"], lines), {"coin": crowd})
        self.refused(TooMany, {"what": "ends", "most": 3}, shape_of, wide)
        self.assertEqual(len(shape_of(Study(many.watch.begun("q1"), {"coin": crowd}))), 2)
        loose = Study(Watch({"coin": ("hit", "miss")}, ["lit", "dark", "a", "b"], [*lines[:-1], ("q16", "coin", ("q16", "a"))]),
                      {"coin": crowd})
        self.refused(Unsure, {"trap": sure(loose)}, shape_of, loose)


class CheckTest(Case):
    def test_plain_cases(self):
        shape = shape_of(PAIR)
        ends, rows, worlds, sides, ranks = shape.parts
        self.assertTrue(shows_shape(PAIR, Shape(ends, rows, worlds, sides, {"first": 3, "once": 2, "never": 1})))
        self.assertTrue(shows_shape(study=PAIR, value=shape))
        wrong = [Shape(ends[::-1], rows, worlds, sides, ranks), Shape(ends, rows[::-1], worlds[::-1], sides, ranks),
                 Shape(ends, rows[:-1], worlds[:-1], sides, ranks), Shape(ends, rows, worlds, sides[1:], ranks),
                 Shape(ends, rows, worlds[::-1], sides, ranks), Shape(ends, rows, worlds, sides[::-1], ranks),
                 Shape(ends, (*rows, rows[-1]), (*worlds, worlds[-1]), sides, ranks), Shape(ends, rows, worlds, sides, {}),
                 Shape(ends, rows, worlds, (*sides, Side((1, 1, 1), 1, {"first": 1, "once": 1, "never": 1})), ranks),
                 Shape(ends, rows, worlds, [side.parts for side in sides], ranks), Paper("shape", *shape.parts),
                 Shape(ends, rows, worlds, [Paper("side", *side.parts) for side in sides], ranks),
                 Shape(ends, rows, worlds, (Side((0, 0, 2), sides[0].number * 2, [(key, value * 2) for key, value in
                                                                                 sides[0].table]), *sides[1:]), ranks),
                 Shape((), (), (), (), ())]
        for paper in wrong:
            self.assertIs(shows_shape(PAIR, paper), False)
            self.assertIs(type(paper) is Shape and is_shape(PAIR, paper), False)

    def test_any_values(self):
        shape = shape_of(PAIR)
        for value in ANY_VALUES:
            self.assertIs(shows_shape(PAIR, value), False)
            self.refused(BadStudy, {"part": "study"}, shows_shape, value, shape)
            for at in range(5):
                parts = list(shape.parts)
                parts[at] = value
                self.assertIs(shows_shape(PAIR, Shape(*parts)), False)
                parts[at] = [value] * 6
                self.assertIs(shows_shape(PAIR, Shape(*parts)), False)
            for at in range(3):
                parts = list(shape.sides[0].parts)
                parts[at] = value
                sides = (Side(*parts), *shape.sides[1:])
                self.assertIs(shows_shape(PAIR, Shape(*shape.parts[:3], sides, shape.ranks)), False)
            row = (1, 1, value)
            self.assertIs(shows_shape(PAIR, Shape(shape.ends, [row] * 6, *shape.parts[2:])), False)
            worlds = [[(state, (0, value)) for state in ("first", "never", "once")]] * 6
            self.assertIs(shows_shape(PAIR, Shape(*shape.parts[:2], worlds, *shape.parts[3:])), False)

    def test_more_corners_than_there_are(self):
        study = one_draw([[1, 0], [0, 1], [HALF, HALF]], ("x", "y"))
        shape = shape_of(study)
        worlds = [{"s": (1, (0, 1))}, {"s": (2, (HALF, HALF))}, {"s": (0, (1, 0))}]
        rows = [(0, 1), (HALF, HALF), (1, 0)]
        self.assertTrue(shows_shape(study, Shape(shape.ends, rows[::2], worlds[::2], shape.sides, shape.ranks)))
        self.assertIs(shows_shape(study, Shape(shape.ends, rows, worlds, shape.sides, shape.ranks)), False)
        self.assertIs(shows_shape(study, Shape(shape.ends, rows[:2], worlds[:2], shape.sides, shape.ranks)), False)

    def test_four_ends_and_studies_that_are_not_sure(self):
        wide = Study(Watch({"c": ("a", "b")}, ["w", "x", "y", "z"], [("s", "c", ("w", "x"))]), {"c": Crowd(("a", "b"), [[1, 0]])})
        paper = Shape(wide.watch.ends, [(1, 0, 0, 0)], [{"s": (0, (1, 0, 0, 0))}], [], {"s": 1})
        self.assertIs(shows_shape(wide, paper), False)
        loop = Study(Watch({"c": ("a", "b")}, ["x"], [("s", "c", ("s", "x"))]), {"c": Crowd(("a", "b"), [[1, 0], [0, 1]])})
        self.assertIs(shows_shape(loop, Shape(("x",), [(1,)], [{"s": (1, (1,))}], [], {"s": 1})), False)

    def test_bent_papers(self):
        rng = rng_of(63)
        counts = {True: 0, False: 0}
        for _ in range(150):
            study = rng.choice([drawn_sure_study, drawn_ahead_study])(rng, rng.randint(1, 3))
            shape = shape_of(study)
            for _ in range(14):
                other = bent_paper(rng, shape)
                wanted = is_shape(study, other)
                self.assertIs(shows_shape(study, other), wanted)
                counts[wanted] += 1
        self.assertTrue(counts[True] > 50 and counts[False] > 1000, counts)


if __name__ == "__main__":
    unittest.main()

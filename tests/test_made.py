import itertools
import unittest

from peekproof.errors import BadNumbers, BadWatch, TooMany, Twice
from peekproof.likeness import alike
from peekproof.made import ahead_by, cut, in_a_row, in_all, of_last, sooner, spotted
from peekproof.watches import Watch
from tests.support import ANY_VALUES, Case, drawn_watch, rng_of

NO_INTEGERS = [value for value in ANY_VALUES if type(value) is not int]
THREE = ("up", "down", "flat")


def level(row):
    return row.count("up") - row.count("down")


def ends_with(row, part):
    return list(row[-len(part):]) == list(part)


class ReadyTest(Case):
    def follows(self, watch, rule, length=7):
        """The watch goes by the rule, which tells the end behind a row, or None."""
        for row in itertools.product(watch.arms[0][1], repeat=length):
            wanted = next((rule(row[:at]) for at in range(1, length + 1) if rule(row[:at])), None)
            shown = next((at for at in range(1, length + 1) if rule(row[:at])), length)
            place = watch.after(row[:shown])
            self.assertEqual(place if place not in watch else None, wanted)

    def numbered(self, watch):
        self.assertEqual(watch.states, tuple(f"s{at}" for at in range(len(watch))))
        self.assertEqual(watch.reached(), watch.states)

    def test_texts(self):
        self.assertEqual(str(in_a_row(2)), "trial : hit miss / lit / s0 trial : s1 s0 / s1 trial : lit s0")
        self.assertEqual(str(in_all(1)), "trial : hit miss / lit / s0 trial : lit s0")
        self.assertEqual(str(of_last(2, 2)),
                         "trial : hit miss / lit / s0 trial : s1 s2 / s1 trial : lit s2 / s2 trial : s1 s2")
        self.assertEqual(str(of_last(1, 1)), "trial : hit miss / lit / s0 trial : lit s0")
        self.assertEqual(str(spotted(["hit", "miss"])), "trial : hit miss / lit / s0 trial : s1 s0 / s1 trial : s1 lit")
        self.assertEqual(str(sooner(1, 2)), "trial : hit miss / lit dark / s0 trial : lit s1 / s1 trial : s0 dark")
        self.assertEqual(str(ahead_by(1, 2)), "trial : hit miss / lit dark / s0 trial : lit s1 / s1 trial : dark dark")
        self.assertEqual(str(ahead_by(2, 2, [1], signs=["x", "y"], arm="a.b")),
                         "a.b : x y / lit dark / s0 a.b : s1 s2 / s1 a.b : dark dark / s2 a.b : dark dark")
        self.assertEqual(str(in_a_row(1, signs=("x", "y", "z"), arm="q")), "q : x y z / lit / s0 q : lit s0 s0")

    def test_rules(self):
        for signs in (("up", "down"), THREE):
            length = 8 if len(signs) == 2 else 6
            for many in (1, 2, 3):
                self.follows(in_a_row(many, signs=signs), lambda row: "lit" if ends_with(row, ["up"] * many) else None,
                             length)
                self.follows(in_all(many, signs=signs), lambda row: "lit" if row.count("up") == many else None, length)
                for window in range(many, 5):
                    self.follows(of_last(window, many, signs=signs),
                                 lambda row: "lit" if row[-window:].count("up") >= many else None, length)
                for down in (1, 2):
                    self.follows(sooner(many, down, signs=signs),
                                 lambda row: {many: "lit", -down: "dark"}.get(level(row)), length)
                for last, looks in ((5, None), (5, [2, 4]), (3, (3,)), (4, [1])):
                    seen = range(1, last + 1) if looks is None else looks
                    self.follows(ahead_by(many, last, looks, signs=signs),
                                 lambda row: "lit" if len(row) in seen and level(row) >= many
                                 else "dark" if len(row) == last else None, length)
            for part in (["up"], ["up", "up", "down"], ["down", "up", "down", "up"], ["up", "down", "up", "up"]):
                self.follows(spotted(part, signs=signs), lambda row: "lit" if ends_with(row, part) else None, length)

    def test_drawn_rows_and_looks(self):
        rng = rng_of(33)
        for _ in range(40):
            part = [rng.choice(["up", "down"]) for _ in range(rng.randint(1, 6))]
            self.follows(spotted(part, signs=("up", "down")), lambda row: "lit" if ends_with(row, part) else None, 9)
        for looks in ([1, 2, 4], [1, 3, 4, 5], (2, 3, 5)):
            self.follows(ahead_by(2, 5, looks, signs=("up", "down")),
                         lambda row: "lit" if len(row) in looks and level(row) >= 2
                         else "dark" if len(row) == 5 else None)
        for looks in ([1, 3, 3], [1, 3, 2], [2, 1, 3], [1, 2, 3, 6]):
            self.refused(BadNumbers, {"part": "looks"}, ahead_by, 2, 5, looks)

    def test_sizes_and_numbering(self):
        for watch, many in ((in_a_row(60), 60), (in_all(60), 60), (of_last(6, 6), 63), (of_last(6, 1), 6),
                            (spotted(["hit"] * 20), 20), (sooner(30, 30), 59),
                            (ahead_by(14, 14, signs=THREE), 196), (ahead_by(1, 1), 1)):
            self.assertEqual(len(watch), many)
            self.numbered(watch)
            self.assertEqual(watch.ends, ("lit", "dark") if watch.ends[1:] else ("lit",))
        self.assertEqual([watch.ends for watch in (in_a_row(1), in_all(1), of_last(1, 1), spotted(["hit"]), sooner(1, 1),
                                                   ahead_by(1, 1))], [("lit",)] * 4 + [("lit", "dark")] * 2)

    def test_bounds_and_wrong_numbers(self):
        for make, part, most, rest in ((in_a_row, "many", 60, ()), (in_all, "many", 60, ()), (of_last, "window", 6, (1,)),
                                       (lambda many: of_last(6, many), "many", 6, ()), (sooner, "up", 30, (1,)),
                                       (lambda down: sooner(1, down), "down", 30, ()), (ahead_by, "by", 14, (1,)),
                                       (lambda last: ahead_by(1, last), "last", 14, ())):
            for value in [*NO_INTEGERS, 0, -1, most + 1]:
                self.refused(BadNumbers, {"part": part}, make, value, *rest)
            make(most, *rest)
            make(1, *rest)
        self.refused(BadNumbers, {"part": "many"}, of_last, 3, 4)
        self.refused(BadNumbers, {"part": "window"}, of_last, 7, 9)
        for looks in [*[value for value in ANY_VALUES if value is not None and value != [1]], [0], [1, 1], [2, 1], [5],
                      [True], [1, None], {1: 1}]:
            self.refused(BadNumbers, {"part": "looks"}, ahead_by, 1, 4, looks, signs=None, arm=None)
        self.refused(BadNumbers, {"part": "by"}, ahead_by, 0, 0, [])
        self.refused(BadNumbers, {"part": "last"}, ahead_by, 1, 0, [])
        self.refused(BadNumbers, {"part": "up"}, sooner, 0, 0, signs=None)

    def test_wrong_signs_and_arms(self):
        many = [f"n{at}" for at in range(13)]
        for make, arguments in ((in_a_row, (2,)), (in_all, (2,)), (of_last, (2, 1)), (spotted, (["hit"],)), (sooner, (1, 1)),
                                (ahead_by, (1, 2))):
            for signs in [*ANY_VALUES, ["a"], ["a", "a"], many, ["a", "B"], "ab", {"a": 1, "b": 2}]:
                self.refused(BadWatch, {"part": "signs"}, make, *arguments, signs=signs, arm=None)
            for arm in [value for value in ANY_VALUES if value != "x"] + ["A", "a."]:
                self.refused(BadWatch, {"part": "arm"}, make, *arguments, arm=arm)
            with self.assertRaises(TypeError):
                make(*arguments, None, ("a", "b"))
        self.assertEqual(len(in_all(2, signs=many[:12]).arms[0][1]), 12)
        for row in [*ANY_VALUES, ["hit"] * 21, ["hit", "up"], ["hit", []], "hit", {"hit": 1}]:
            self.refused(BadWatch, {"part": "row"}, spotted, row, arm=None)
        self.refused(BadWatch, {"part": "signs"}, spotted, None, signs=["a"])


class CutTest(Case):
    def test_plain_cases(self):
        self.assertEqual(str(cut(in_a_row(2), 2)),
                         "trial : hit miss / lit dark / s0 trial : s1 s2 / s1 trial : lit dark / s2 trial : dark dark")
        self.assertEqual(str(cut(in_all(1), 1, "late")), "trial : hit miss / lit late / s0 trial : lit late")
        self.assertEqual(cut(sooner(1, 1), 5).ends, ("lit", "dark"))
        self.assertEqual(cut(in_all(1), 60, dark="x.y").ends, ("lit", "x.y"))
        self.assertEqual(alike(cut(sooner(3, 3), 5), cut(sooner(3, 3), 5)).word, "alike")

    def test_drawn_watches(self):
        rng = rng_of(17)
        arms = {"coin": ("hit", "miss"), "die": ("a", "b", "c")}
        for _ in range(80):
            watch, last = drawn_watch(rng, rng.randint(1, 5), arms), rng.randint(1, 5)
            made = cut(watch, last, "dim")
            self.assertEqual(made.ends, ("lit", "dark", "dim"))
            self.assertEqual(made.reached(), tuple(f"s{at}" for at in range(len(made))))
            for _ in range(20):
                row = []
                while watch.after(row) in watch and len(row) < last:
                    row.append(rng.choice(watch.signs_of(watch.after(row))))
                    place = watch.after(row)
                    told = made.after(row)
                    if place in watch:
                        self.assertTrue(told in made if len(row) < last else told == "dim")
                        if told in made:
                            self.assertEqual(made.arm_of(told), watch.arm_of(place))
                    else:
                        self.assertEqual(told, place)

    def test_errors_in_their_order(self):
        watch = in_a_row(2)
        for value in ANY_VALUES:
            self.refused(BadWatch, {"part": "watch"}, cut, value, None, None)
        for value in [*NO_INTEGERS, 0, -1, 61]:
            self.refused(BadNumbers, {"part": "last"}, cut, watch, value, None)
        for value in [value for value in ANY_VALUES if value != "x"] + ["lit", "s0", "s1", "A"]:
            self.refused(BadWatch, {"part": "dark"}, cut, watch, 3, value)
        nine = Watch({"c": ["x"]}, [f"e{at}" for at in range(9)], [("p", "c", ["q"]), ("q", "c", ["p"])])
        self.refused(TooMany, {"what": "ends", "most": 9}, cut, nine, 3)
        self.assertEqual(cut(nine, 3, "e3").ends, nine.ends)
        wide = Watch({"c": ["x", "y"]}, ["lit"], [(f"q{at}", "c", (f"q{(at + 1) % 9}", f"q{(at + 2) % 9}"))
                                                  for at in range(9)])
        self.refused(TooMany, {"what": "states", "most": 200}, cut, wide, 60)
        self.refused(TooMany, {"what": "states", "most": 200}, cut, wide, 60, "s0")
        self.assertEqual(len(cut(in_a_row(3), 60)), 1 + 2 + 3 * 58 - 1 + 1)

    def test_an_end_that_is_a_made_state(self):
        watch = Watch({"c": ["x"]}, ["s3", "s1", "lit"], [("p", "c", ["q"]), ("q", "c", ["p"])])
        self.refused(Twice, {"name": "s3"}, cut, watch, 4)
        self.refused(Twice, {"name": "s1"}, cut, watch, 3)
        self.refused(Twice, {"name": "s0"}, cut, Watch({"c": ["x"]}, ["lit"], [("p", "c", ["p"])]), 1, "s0")
        self.assertEqual(len(cut(watch, 1)), 1)


if __name__ == "__main__":
    unittest.main()

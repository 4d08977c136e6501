import itertools
import unittest

from peekproof.errors import BadWatch, TooMany, UnlikeArms, UnlikeSigns
from peekproof.joined import all_of, any_of, in_order, joined
from peekproof.made import in_a_row, in_all, of_last, sooner, spotted
from peekproof.watches import Joined, Watch
from tests.support import ANY_VALUES, Case, drawn_watch, rng_of

DIE = {"die": ("a", "b", "c")}
COIN = {"coin": ("hit", "miss")}


def walked(watch, row):
    """The place behind the row, or the end at which it stops."""
    place = watch.first
    for sign in row:
        if place in watch:
            place = watch.place(place, sign)
    return place


def told(kind, watches, row):
    """The end behind the row, by the words of the document; None while there is none."""
    if kind is in_order:
        left = list(row)
        for watch in watches:
            shown = next((at for at in range(len(left) + 1) if walked(watch, left[:at]) not in watch), None)
            if shown is None:
                return None
            if walked(watch, left[:shown]) != "lit":
                return "dark"
            left = left[shown:]
        return "lit"
    for at in range(len(row) + 1):
        places = [walked(watch, row[:at]) for watch in watches]
        ended = [place for place, watch in zip(places, watches) if place not in watch]
        lit = places.count("lit")
        if kind is any_of and lit:
            return "lit"
        if kind is all_of and lit == len(watches):
            return "lit"
        if kind is all_of and lit < len(ended):
            return "dark"
        if kind is any_of and len(ended) == len(watches):
            return "dark"
    return None


class JoinedTest(Case):
    def test_joined(self):
        one, other = in_a_row(2), in_all(3)
        both = joined(one, other)
        self.assertIsInstance(both, Joined)
        self.assertEqual(both, one & other)
        for value in ANY_VALUES:
            self.refused(BadWatch, {"part": "one"}, joined, value, value)
            self.refused(BadWatch, {"part": "other"}, joined, one, value)

    def test_texts(self):
        self.assertEqual(str(any_of(in_a_row(2), in_all(2))), "trial : hit miss / lit dark / s0 trial : s1 s0 / "
                         "s1 trial : lit s2 / s2 trial : lit s2")
        self.assertEqual(str(in_order(in_all(1), sooner(1, 1))),
                         "trial : hit miss / lit dark / s0 trial : s1 s0 / s1 trial : lit dark")
        self.assertEqual(str(all_of(in_all(1), sooner(1, 1))), "trial : hit miss / lit dark / s0 trial : lit dark")
        for kind in (any_of, all_of, in_order):
            self.assertEqual(str(kind(in_all(1))), "trial : hit miss / lit dark / s0 trial : lit s0")
            self.assertEqual(kind(*[sooner(2, 2)] * 6).ends, ("lit", "dark"))

    def test_rules_of_drawn_watches(self):
        rng = rng_of(18)
        for kind in (any_of, all_of, in_order):
            for _ in range(60):
                watches = [drawn_watch(rng, rng.randint(1, 3), DIE, rng.choice([("lit", "dark"), ("lit",), ("dim", "lit")]))
                           for _ in range(rng.randint(1, 3))]
                made = kind(*watches)
                self.assertEqual(made.reached(), tuple(f"s{at}" for at in range(len(made))))
                self.assertEqual(made.ends, ("lit", "dark"))
                for row in itertools.product("abc", repeat=4):
                    place = walked(made, row)
                    self.assertEqual(None if place in made else place, told(kind, watches, row))

    def test_wrong_values(self):
        watch = in_a_row(2)
        for kind in (any_of, all_of, in_order):
            self.refused(BadWatch, {"part": "watches"}, kind)
            self.refused(BadWatch, {"part": "watches"}, kind, *[watch] * 7)
            for value in [*ANY_VALUES, [watch], (watch, watch)]:
                self.refused(BadWatch, {"part": "watches"}, kind, value)
                self.refused(BadWatch, {"part": "watches"}, kind, watch, value)

    def test_unlike_signs_are_told_watch_by_watch(self):
        one = Watch({"a": ["x"], "b": ["y"], "c": ["z"]}, ["lit"],
                    [("p", "c", ["q"]), ("q", "b", ["r"]), ("r", "a", ["lit"])])
        other = Watch({"a": ["x"], "b": ["w"], "c": ["w"]}, ["lit"],
                      [("p", "a", ["q"]), ("q", "b", ["r"]), ("r", "c", ["lit"])])
        third = Watch({"d": ["x"]}, ["lit"], [("p", "d", ["lit"])])
        fourth = Watch({"d": ["x", "y"], "a": ["w"]}, ["lit"], [("p", "d", ["q", "q"]), ("q", "a", ["lit"])])
        turned = Watch({"d": ["y", "x"]}, ["lit"], [("p", "d", ["lit", "lit"])])
        for kind in (any_of, all_of, in_order):
            self.refused(UnlikeSigns, {"label": "b"}, kind, one, other)
            self.refused(UnlikeSigns, {"label": "c"}, kind, other, one)
            self.refused(UnlikeSigns, {"label": "d"}, kind, one, third, fourth)
            self.refused(UnlikeSigns, {"label": "a"}, kind, one, fourth, third)
            self.refused(UnlikeSigns, {"label": "d"}, kind, fourth, turned)

    def test_unlike_arms(self):
        coin, die = in_all(1, arm="coin"), in_all(1, arm="die")
        for kind in (any_of, all_of):
            self.refused(UnlikeArms, {"one": "s0", "other": "s0"}, kind, coin, die)
        self.assertEqual(str(in_order(coin, die)),
                         "coin : hit miss / die : hit miss / lit dark / s0 coin : s1 s0 / s1 die : lit s1")
        step = Watch({"coin": ("hit", "miss"), "die": ("hit", "miss")}, ["lit"],
                     [("p", "coin", ("q", "lit")), ("q", "die", ("lit", "lit"))])
        flat = Watch(COIN, ["dark"], [("m", "coin", ("m", "n")), ("n", "coin", ("dark", "dark"))])
        self.refused(UnlikeArms, {"one": "m", "other": "q"}, any_of, flat, flat, step)
        self.refused(UnlikeArms, {"one": "q", "other": "m"}, all_of, step, flat)

    def test_too_many_states(self):
        rings = [Watch(COIN, ["lit"], [(f"q{at}", "coin", (f"q{(at + 1) % many}", "lit")) for at in range(many)])
                 for many in (15, 14)]
        self.refused(TooMany, {"what": "states", "most": 200}, any_of, *rings)
        self.refused(TooMany, {"what": "states", "most": 200}, in_order, *[in_all(60)] * 4)
        self.assertEqual(len(in_order(*[in_all(40)] * 5)), 200)
        self.assertEqual(len(in_order(*[in_all(33)] * 6)), 198)
        self.assertEqual(len(any_of(*[of_last(6, 6)] * 6)), 63)
        self.assertEqual(len(all_of(*[spotted(["hit"] * 20)] * 6)), 20)


if __name__ == "__main__":
    unittest.main()

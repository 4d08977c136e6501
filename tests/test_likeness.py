import itertools
import unittest

from peekproof.errors import BadWatch, TooMany, UnlikeSigns
from peekproof.joined import any_of, in_order
from peekproof.likeness import Alike, Unlike, alike, folded, settled, shows_alike
from peekproof.made import cut, in_a_row, in_all, sooner
from peekproof.papers import Denial, Paper
from peekproof.watches import Watch
from tests.support import ANY_VALUES, Case, drawn_watch, rng_of

ARMS = {"coin": ("hit", "miss"), "die": ("a", "b", "c")}


def behind(watch, row):
    """The arm that is asked behind the row, or the end; None if it is no row of the watch."""
    place = watch.first
    for sign in row:
        if place not in watch or sign not in watch.signs_of(place):
            return None
        place = watch.place(place, sign)
    return ("asks", watch.arm_of(place)) if place in watch else ("end", place)


def rows_in_order(watch, most):
    rows = [()]
    for _ in range(most + 1):
        yield from rows
        rows = [(*row, sign) for row in rows if watch.after(row) in watch for sign in watch.signs_of(watch.after(row))]


def relabelled(rng, watch):
    """An alike watch with states of other labels, each one twice."""
    lines = []
    for state in watch:
        for copy in ("x", "y"):
            places = [f"{place}.{rng.choice('xy')}" if place in watch else place for place in watch.places_of(state)]
            lines.append((f"{state}.{copy}", watch.arm_of(state), places))
    return Watch(dict(watch.arms), watch.ends, lines)


class AlikeTest(Case):
    def test_plain_cases(self):
        self.assertEqual(alike(in_order(in_all(1), in_all(1)), in_all(2)), Alike([("s0", "s0"), ("s1", "s1")]))
        self.assertEqual(alike(in_a_row(2), in_all(2)), Unlike(["hit", "miss", "hit"]))
        self.assertEqual(alike(in_all(1, arm="a"), in_all(1, arm="b")), Unlike([]))
        self.assertEqual(alike(sooner(1, 1), in_all(1)), Unlike(["miss"]))

    def test_drawn_watches(self):
        rng = rng_of(19)
        words = []
        for _ in range(150):
            one = drawn_watch(rng, rng.randint(1, 3), ARMS)
            other = rng.choice([drawn_watch(rng, rng.randint(1, 3), ARMS), relabelled(rng, one), one])
            shown = alike(one, other)
            words.append(shown.word)
            self.assertTrue(shows_alike(one, other, shown))
            parting = next((row for row in rows_in_order(one, 5)
                            if behind(other, row) not in (None, behind(one, row))), None)
            if shown:
                self.assertIsNone(parting)
                firsts = []
                for row in rows_in_order(one, 6):
                    pair = (one.after(row), other.after(row))
                    if pair[0] in one and pair not in firsts:
                        firsts.append(pair)
                self.assertEqual(list(shown.pairs), firsts)
                for at in range(len(shown.pairs)):
                    self.assertFalse(shows_alike(one, other, Alike(shown.pairs[:at] + shown.pairs[at + 1:])))
                self.assertTrue(shows_alike(one, other, Alike(shown.pairs[::-1] + shown.pairs)))
            else:
                self.assertEqual(shown.row, parting if len(shown.row) < 6 else shown.row)
                self.assertNotEqual(behind(one, shown.row), behind(other, shown.row))
                self.assertFalse(shows_alike(one, other, Unlike(shown.row[:-1])) and shown.row)
                self.assertFalse(shows_alike(one, other, Unlike((*shown.row, "hit", "hit"))))
            for row in itertools.product(["hit", "a"], repeat=2):
                wanted = None not in (behind(one, row), behind(other, row)) and behind(one, row) != behind(other, row)
                self.assertIs(shows_alike(one, other, Unlike(row)), wanted)
        self.assertTrue(words.count("alike") > 30 and words.count("unlike") > 30)

    def test_wrong_papers(self):
        one, other = in_all(2), in_order(in_all(1), in_all(1))
        pairs = [("s0", "s0"), ("s1", "s1")]
        self.assertTrue(shows_alike(one, other, Alike(pairs)))
        for bent in ([*pairs, ("s0", "s1")], [*pairs, ("s0", "lit")], [*pairs, "s0"], [*pairs, ("s0",)],
                     [*pairs, (None, [])], [*pairs, ("s0", "s0", "s0")], pairs[1:], [], None, {"s0": "s1"}):
            self.assertFalse(shows_alike(one, other, Alike(bent)))
        self.assertTrue(shows_alike(one, other, Alike({"s0": "s0", "s1": "s1"})))
        for value in ANY_VALUES:
            self.assertIs(shows_alike(one, other, value), False)
            self.assertIs(shows_alike(one, other, Alike(value)), False)
            self.assertIs(shows_alike(one, other, Unlike(value)), False)
            self.assertIs(shows_alike(one, other, Unlike([value])), False)
        self.assertIs(shows_alike(one, other, Paper("alike", pairs)), False)
        self.assertIs(shows_alike(one, in_all(3), Denial("unlike", ["hit", "hit"])), False)
        self.assertIs(shows_alike(one, in_all(3), Unlike(["hit", "hit"])), True)
        self.assertIs(shows_alike(one, in_all(3), Unlike(["miss", "hit", "hit"])), True)
        self.assertIs(shows_alike(one, in_all(3), Unlike("hit")), False)

    def test_pairs_that_go_beyond_what_is_reached(self):
        lines = [("p", "coin", ("lit", "p")), ("q", "coin", ("lit", "q")), ("r", "coin", ("dark", "r"))]
        watch = Watch({"coin": ARMS["coin"]}, ["lit", "dark"], lines)
        self.assertTrue(shows_alike(watch, watch, Alike([("p", "p"), ("q", "p"), ("r", "r")])))
        self.assertFalse(shows_alike(watch, watch, Alike([("p", "p"), ("q", "r")])))

    def test_errors(self):
        watch = in_all(2)
        turned = in_all(2, signs=("miss", "hit"))
        for call in (alike, lambda one, other: shows_alike(one, other, None)):
            for value in ANY_VALUES:
                self.refused(BadWatch, {"part": "one"}, call, value, value)
                self.refused(BadWatch, {"part": "other"}, call, watch, value)
            self.refused(UnlikeSigns, {"label": "trial"}, call, watch, turned)


class LargeTest(Case):
    def test_rings_of_many_states(self):
        rings = [Watch({"bell": ["ring"]}, ["lit"], [(f"q{at}", "bell", [f"q{(at + 1) % many}"]) for at in range(many)])
                 for many in (199, 200)]
        shown = alike(*rings)
        self.assertEqual(len(shown.pairs), 199 * 200)
        self.assertTrue(shows_alike(*rings, shown))
        self.assertFalse(shows_alike(*rings, Alike(shown.pairs[:-1])))
        lines = [(f"q{at}", "bell", [f"q{at + 1}" if at < 199 else "lit"]) for at in range(200)]
        line = Watch({"bell": ["ring"]}, ["lit"], lines)
        self.assertEqual(alike(rings[0], line), Unlike(["ring"] * 200))
        self.assertEqual([len(folded(watch)) for watch in (*rings, line)], [1, 1, 200])
        self.assertEqual([len(settled(watch)) for watch in (*rings, line)], [1, 1, 200])


class FoldedTest(Case):
    def test_plain_cases(self):
        watch = Watch({"coin": ARMS["coin"]}, ["lit", "dark"],
                      [("a", "coin", ("d", "b")), ("x", "coin", ("lit", "lit")), ("b", "coin", ("c", "a")),
                       ("c", "coin", ("lit", "dark")), ("d", "coin", ("lit", "dark"))])
        self.assertEqual(str(folded(watch)), "coin : hit miss / lit dark / a coin : d a / d coin : lit dark")
        self.assertEqual(folded(in_a_row(5)), in_a_row(5))
        self.assertEqual(folded(any_of(in_all(3), in_all(3), in_all(5))).states, ("s0", "s1", "s2"))
        both = Watch({"a": ["x"], "b": ["x"]}, ["e"], [("p", "a", ["e"]), ("q", "b", ["e"])])
        self.assertEqual(str(folded(both)), "a : x / e / p a : e")

    def test_drawn_watches(self):
        rng = rng_of(20)
        for _ in range(100):
            watch = drawn_watch(rng, rng.randint(1, 6), ARMS)
            if rng.randint(0, 1):
                watch = relabelled(rng, watch)
            small = folded(watch)
            self.assertTrue(alike(watch, small))
            self.assertEqual(small.reached(), small.states)
            self.assertEqual(small.ends, watch.ends)
            self.assertEqual(folded(small), small)
            for one, other in itertools.combinations(small.states, 2):
                self.assertFalse(alike(small.begun(one), small.begun(other)))
            reached = watch.reached()
            kept = [state for at, state in enumerate(reached)
                    if not any(alike(watch.begun(state), watch.begun(other)) for other in reached[:at])]
            self.assertEqual(list(small.states), kept)

    def test_errors(self):
        for value in ANY_VALUES:
            self.refused(BadWatch, {"part": "watch"}, folded, value)


class SettledTest(Case):
    def test_plain_cases(self):
        watch = Watch({"coin": ARMS["coin"], "die": ARMS["die"]}, ["dim", "lit"],
                      [("a", "coin", ("b", "c")), ("d", "die", ("d", "d", "dim")), ("c", "coin", ("d", "b")),
                       ("b", "coin", ("lit", "b")), ("e", "coin", ("lit", "e"))])
        self.assertEqual(str(settled(watch)), "coin : hit miss / dim lit dark / a coin : b c / c coin : dark b / "
                                              "b coin : lit b")
        self.assertEqual(str(settled(watch, "dim")), "coin : hit miss / dim lit / a coin : b c / c coin : dim b / "
                                                     "b coin : lit b")
        self.assertEqual(str(settled(watch.begun("d"), dark="x")), "die : a b c / dim lit x / d die : x x dim")
        self.assertEqual(settled(in_a_row(2)).ends, ("lit", "dark"))
        self.assertEqual(settled(cut(in_a_row(2), 3)).ends, ("lit", "dark"))

    def test_drawn_watches(self):
        rng = rng_of(21)
        for _ in range(100):
            watch = drawn_watch(rng, rng.randint(1, 5), ARMS, ("lit", "dark", "dim"))
            made = settled(watch)
            hopeful = [state for state in watch if "lit" in [
                place for other in watch.begun(state).reached() for place in watch.places_of(other)]]
            wanted = {watch.first: True}
            for state in watch:
                for other in list(wanted):
                    wanted.update({place: True for place in watch.places_of(other) if place in hopeful})
            self.assertEqual(made.states, tuple(state for state in watch.states if state in wanted))
            for state in made:
                self.assertEqual(made.arm_of(state), watch.arm_of(state))
                self.assertEqual(made.places_of(state), tuple(
                    "dark" if place in watch and place not in hopeful else place for place in watch.places_of(state)))

    def test_errors(self):
        watch = in_a_row(2)
        for value in ANY_VALUES:
            self.refused(BadWatch, {"part": "watch"}, settled, value, None)
        for value in [value for value in ANY_VALUES if value != "x"] + ["lit", "s0", "s1", "A"]:
            self.refused(BadWatch, {"part": "dark"}, settled, watch, value)
        nine = Watch({"c": ["x"]}, [f"e{at}" for at in range(9)], [("p", "c", ["e0"])])
        self.refused(TooMany, {"what": "ends", "most": 9}, settled, nine)
        self.refused(BadWatch, {"part": "dark"}, settled, nine, "p")
        self.assertEqual(settled(nine, "e8").ends, nine.ends)


if __name__ == "__main__":
    unittest.main()

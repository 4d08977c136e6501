import unittest

from peekproof.crowds import Crowd
from peekproof.errors import BadCrowd, BadNumbers, BadTable, BadText, NoSign, TooMany
from peekproof.ratios import Ratio
from peekproof.tables import Table
from tests.parts_oracle import Parts
from tests.support import ANY_VALUES, NO_TEXTS, Case, bent, drawn_chances, drawn_crowd, first_bad_word, rng_of

COIN = ("hit", "miss")
NAMES = [f"n{at}" for at in range(13)]
HALF = Ratio(1, 2)
ORACLE = Parts("/", 96, False)


def fair(bottom, *tops):
    return tuple(Ratio(top, bottom) for top in tops)


class CrowdTest(Case):
    def test_example(self):
        crowd = Crowd.between(("hit", "miss"), Ratio(1, 4), Ratio(1, 2))
        self.assertEqual(repr([str(crowd), crowd.greatest_mean((1, 0)), crowd.span("miss")]),
                         "['hit 1/4 miss 3/4 / hit 1/2 miss 1/2', (1/2, 1), (1/2, 3/4)]")

    def test_attributes(self):
        crowd = Crowd(["hit", "miss"], [[1, 0], (HALF, HALF), (1, 0)])
        self.assertEqual((crowd.signs, crowd.corners), (COIN, ((1, 0), (HALF, HALF), (1, 0))))
        self.all_ratios([chance for corner in crowd.corners for chance in corner])
        self.assertEqual((len(crowd), list(crowd)), (3, list(crowd.corners)))
        self.assertEqual((Crowd.MOST_SIGNS, Crowd.MOST_CORNERS), (12, 96))
        self.assertEqual(Crowd(corners=[[1]], signs=["a"]).corners, ((1,),))

    def test_what_is_passed_is_copied(self):
        signs, corners = ["hit", "miss"], [[1, 0]]
        crowd = Crowd(signs, corners)
        signs[0] = "q"
        corners[0][0] = 0
        corners.append([0, 1])
        self.assertEqual(str(crowd), "hit 1 miss 0")

    def test_bad_parts(self):
        for value in [*ANY_VALUES, ["a", "a"], NAMES, ["A"], "a", {"a": 1}, ["a", []]]:
            self.refused(BadCrowd, {"part": "signs"}, Crowd, value, value)
        for corners in [*ANY_VALUES, [[1]], [[1, 0, 0]], [[HALF, Ratio(1, 3)]], [[2, -1]], [[1, True]], [[1, None]],
                        [[1, 0], "10"], [[1, 0], []], {0: [1, 0]}, [{"hit": 1, "miss": 0}], [[1, 0]] * 97 + [[1, 1]]]:
            self.refused(BadCrowd, {"part": "corners"}, Crowd, COIN, corners)
        self.refused(TooMany, {"what": "corners", "most": 96}, Crowd, COIN, [[1, 0]] * 97)
        self.assertEqual(len(Crowd(COIN, [[1, 0]] * 96)), 96)
        self.assertEqual(len(Crowd(NAMES[:12], [[1] + [0] * 11]).signs), 12)
        self.assertEqual(len(Crowd(["a"], [[1]])), 1)

    def test_possible_signs(self):
        crowd = Crowd(["a", "b", "c"], [[0, 1, 0], [HALF, HALF, 0]])
        self.assertEqual(crowd.possible(), ("a", "b"))
        self.assertTrue("a" in crowd and "b" in crowd)
        for value in [*ANY_VALUES, "c", "d"]:
            self.assertIs(value in crowd, False)

    def test_span_and_means(self):
        crowd = Crowd(["a", "b", "c"], [fair(6, 1, 2, 3), fair(6, 3, 2, 1), fair(6, 3, 0, 3)])
        self.assertEqual([crowd.span(sign) for sign in "abc"],
                         [(Ratio(1, 6), HALF), (0, Ratio(1, 3)), (Ratio(1, 6), HALF)])
        self.assertEqual(crowd.greatest_mean([1, 0, 0]), (HALF, 1))
        self.assertEqual(crowd.least_mean((Ratio(-1, 2), 0, 0)), (Ratio(-1, 4), 1))
        self.assertEqual(crowd.greatest_mean([0, 0, 1]), (HALF, 0))
        self.assertEqual(crowd.least_mean([5, 5, 5]), (5, 0))
        self.all_ratios([crowd.greatest_mean([1, 1, 1])[0], crowd.least_mean([0, 0, 0])[0], *crowd.span("a")])
        for value in [*ANY_VALUES, "d"]:
            self.refused(NoSign, {"name": value}, crowd.span, value)
        for value in [*ANY_VALUES, [1, 1], [1, 1, 1, 1], [1, 1, True], [1, 1, "1"], {"a": 1, "b": 1, "c": 1}]:
            self.refused(BadNumbers, {"part": "numbers"}, crowd.greatest_mean, value)
            self.refused(BadNumbers, {"part": "numbers"}, crowd.least_mean, value)

    def test_mixture(self):
        crowd = Crowd(COIN, [[1, 0], [0, 1], [HALF, HALF]])
        self.assertEqual(crowd.mixture([Ratio(1, 3), Ratio(1, 3), Ratio(1, 3)]), (HALF, HALF))
        self.assertEqual(crowd.mixture((1, 0, 0)), (1, 0))
        self.all_ratios(crowd.mixture((1, 0, 0)))
        for value in [*ANY_VALUES, [1, 0], [1, 1, 0], [2, -1, 0], [HALF, HALF, False], [0, 0, 0], [1, 0, 0, 0]]:
            self.refused(BadNumbers, {"part": "weights"}, crowd.mixture, value)

    def test_needed(self):
        crowd = Crowd(COIN, [[HALF, HALF], [1, 0], [Ratio(1, 4), Ratio(3, 4)], [1, 0], [0, 1], [HALF, HALF]])
        self.assertEqual(crowd.needed, (1, 4))
        self.assertEqual(crowd.needed, (1, 4))
        self.assertEqual(str(crowd.lean()), "hit 1 miss 0 / hit 0 miss 1")
        self.assertEqual(Crowd(COIN, [[HALF, HALF]] * 3).needed, (0,))
        self.assertEqual(Crowd(["a"], [[1], [1]]).needed, (0,))
        self.assertEqual(Crowd.all_sure(NAMES[:12]).needed, tuple(range(12)))
        square = [fair(4, 2, 1, 1), fair(4, 1, 2, 1), fair(4, 1, 1, 2), fair(12, 4, 4, 4)]
        self.assertEqual(Crowd(["a", "b", "c"], square).needed, (0, 1, 2))
        self.assertEqual(Crowd(["a", "b", "c"], square[::-1]).needed, (1, 2, 3))

    def test_needed_corners_of_two_signs_are_the_ends(self):
        rng = rng_of(5)
        for _ in range(100):
            crowd = drawn_crowd(rng, COIN, rng.randint(1, 9))
            low, high = crowd.span("hit")
            firsts = [min(at for at, corner in enumerate(crowd) if corner[0] == end) for end in (low, high)]
            self.assertEqual(crowd.needed, tuple(sorted(set(firsts))))

    def test_or(self):
        one, other = Crowd(COIN, [[1, 0]]), Crowd(COIN, [[0, 1], [1, 0]])
        self.assertEqual(str(one | other), "hit 1 miss 0 / hit 0 miss 1 / hit 1 miss 0")
        for value in ANY_VALUES:
            self.refused(BadCrowd, {"part": "other"}, lambda: one | value)
        self.refused(BadCrowd, {"part": "fit"}, lambda: one | Crowd(("miss", "hit"), [[1, 0]]))
        many = Crowd(COIN, [[1, 0]] * 90)
        self.assertEqual(len(many | Crowd(COIN, [[1, 0]] * 6)), 96)
        self.refused(TooMany, {"what": "corners", "most": 96}, lambda: many | Crowd(COIN, [[1, 0]] * 7))
        self.refused(BadCrowd, {"part": "fit"}, lambda: many | Crowd(("miss", "hit"), [[1, 0]] * 96))

    def test_behind_a_table(self):
        crowd = Crowd(COIN, [[1, 0], [HALF, HALF]])
        table = Table(COIN, ["a", "b", "c"], [fair(2, 1, 1, 0), fair(4, 0, 1, 3)])
        self.assertEqual(str(crowd * table), "a 1/2 b 1/2 c 0 / a 1/4 b 3/8 c 3/8")
        self.assertEqual(crowd * Table.same(COIN), crowd)
        for value in [*ANY_VALUES, crowd]:
            self.refused(BadTable, {"part": "other"}, lambda: crowd * value)
        self.refused(BadTable, {"part": "fit"}, lambda: crowd * Table.same(("miss", "hit")))

    def test_equality(self):
        corners = [[1, 0, 0], [0, 1, 0], [0, 0, 1], fair(3, 1, 1, 1)]
        crowd = Crowd(["a", "b", "c"], corners)
        self.assertTrue(crowd == Crowd(("a", "b", "c"), corners[2::-1] + [fair(2, 1, 0, 1)] * 3))
        self.assertTrue(crowd == crowd.lean() and crowd == Crowd.all_sure(["a", "b", "c"]))
        self.assertTrue(crowd != Crowd(["a", "c", "b"], corners))
        self.assertTrue(crowd != Crowd(["a", "b", "c"], corners[1:]))
        self.assertTrue(crowd != Crowd(["a", "b"], [[1, 0]]))
        for value in ANY_VALUES:
            self.assertIs(crowd == value, False)

    def test_equality_of_drawn_crowds(self):
        rng = rng_of(6)
        for _ in range(60):
            crowd = drawn_crowd(rng, ["a", "b", "c"], rng.randint(1, 5))
            weights = [drawn_chances(rng, len(crowd)) for _ in range(3)]
            corners = list(crowd.corners) + [crowd.mixture(line) for line in weights]
            rng.shuffle(corners)
            self.assertTrue(Crowd(crowd.signs, corners) == crowd)
            if len(crowd.needed) > 1:
                left = [corner for at, corner in enumerate(crowd) if at != crowd.needed[0]
                        and corner != crowd.corners[crowd.needed[0]]]
                self.assertTrue(Crowd(crowd.signs, left) != crowd)

    def test_made_crowds(self):
        self.assertEqual(str(Crowd.all_sure(["a", "b"])), "a 1 b 0 / a 0 b 1")
        self.assertEqual(str(Crowd.just(["a", "b"], [HALF, HALF])), "a 1/2 b 1/2")
        self.assertEqual([str(Crowd.all_sure(["a"])), str(Crowd.just(("a",), (1,)))], ["a 1", "a 1"])
        self.assertEqual([len(Crowd.all_sure(NAMES[:12])), len(Crowd.just(NAMES[:12], [1] + [0] * 11))], [12, 1])
        self.assertEqual(str(Crowd.between(["a", "b"], 0, 1)), "a 0 b 1 / a 1 b 0")
        self.assertEqual(str(Crowd.between(["a", "b"], HALF, HALF)), "a 1/2 b 1/2")
        for value in [*ANY_VALUES, ["a", "a"], NAMES]:
            self.refused(BadCrowd, {"part": "signs"}, Crowd.all_sure, value)
            self.refused(BadCrowd, {"part": "signs"}, Crowd.just, value, value)
            self.refused(BadCrowd, {"part": "signs"}, Crowd.between, value, None, None)
        for signs in (["a"], ["a", "b", "c"]):
            self.refused(BadCrowd, {"part": "signs"}, Crowd.between, signs, None, None)
        for value in [*ANY_VALUES, [HALF], [HALF, HALF, 0], [1, 1], [True, 0]]:
            self.refused(BadCrowd, {"part": "chances"}, Crowd.just, COIN, value)
        for value in [value for value in ANY_VALUES if type(value) is not int and not isinstance(value, Ratio)] + [
                -1, 2, Ratio(-1, 9), Ratio(10, 9)]:
            self.refused(BadCrowd, {"part": "low"}, Crowd.between, COIN, value, None)
            self.refused(BadCrowd, {"part": "high"}, Crowd.between, COIN, 0, value)
        self.refused(BadCrowd, {"part": "high"}, Crowd.between, COIN, HALF, Ratio(1, 3))


class CrowdTextTest(Case):
    def test_written_and_read(self):
        rng = rng_of(7)
        for _ in range(60):
            crowd = drawn_crowd(rng, NAMES[:rng.randint(1, 12)], rng.randint(1, 20), 9)
            again = Crowd.read(str(crowd))
            self.assertEqual((again.signs, again.corners), (crowd.signs, crowd.corners))

    def test_words_that_cannot_stand(self):
        twelve = " ".join(f"{name} 1/24" for name in NAMES[:11])
        for text, word in (("", 0), ("/", 0), ("x", 1), ("x 1/2", 2), ("x 1/2 /", 2), ("x 1 /", 3), ("x 1 / y 1", 3),
                           ("x 1 / x 1/2", 4), ("x 1 / x 1 y 0", 5), ("x 1 x 0", 2), ("x 1 y 1", 3), ("x 2", 1),
                           ("x -1/2", 1), ("x 1 y 0 / x 1", 7), ("x 1 y 0 / x 1 /", 7), ("x 1 ; x 1", 2),
                           ("x 1 / / x 1", 3), (" x 1", 0), ("x 1 ", 2), ("x  1", 1), ("X 1", 0),
                           ("x 1/2 y 1/2 / x 1/2 y 1/3", 8), (f"{twelve} n11 1/2", 23), (f"{twelve} n11 13/24 q", 24),
                           ("x " + "1" * 61, 1), ("x 1/" + "3" * 61, 1), (" / ".join(["x 1"] * 97), 287)):
            self.refused_text(word, Crowd.read, text)
        self.assertEqual(len(Crowd.read(" / ".join(["x 1"] * 96))), 96)
        self.assertEqual(len(Crowd.read(" / ".join(["x 1"] * 13))), 13)
        self.assertEqual(len(Crowd.read(f"{twelve} n11 13/24").signs), 12)
        big = "7" * 60
        self.assertEqual(str(Crowd.read(f"x 1/{big} y {'7' * 59}6/{big}")), f"x 1/{big} y {'7' * 59}6/{big}")
        for value in NO_TEXTS:
            self.refused(BadText, {"line": 0, "word": 0}, Crowd.read, value)

    def test_bent_texts(self):
        rng = rng_of(8)
        words = ["x", "y", "z", "1", "0", "1/2", "1/3", "2/3", ";", "/", "", "-1/2", "A"]
        for _ in range(3000):
            text = str(drawn_crowd(rng, ["x", "y", "z"][:rng.randint(1, 3)], rng.randint(1, 3), 2))
            for _ in range(rng.randint(1, 2)):
                text = bent(rng, text, words)
            told = first_bad_word(text.split(" "), ORACLE.can_begin, ORACLE.is_whole)
            if told is None:
                self.assertEqual(str(Crowd.read(text)), text)
            else:
                self.refused_text(told, Crowd.read, text)


if __name__ == "__main__":
    unittest.main()

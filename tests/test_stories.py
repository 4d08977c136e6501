import itertools
import re
import unittest

from peekproof.errors import BadNumbers, BadRatio, BadStory, TooMany, Twice
from peekproof.gates import Gates
from peekproof.ratios import Ratio
from peekproof.stories import Story
from tests.parts_oracle import is_label, share
from tests.study_oracle import number
from tests.support import ANY_VALUES, NO_TEXTS, Case, bent, first_bad_word, rng_of

HALF = Ratio(1, 2)
NAMES = [f"n{at}" for at in range(21)]


def is_name(word):
    return bool(re.fullmatch("[a-z][a-z0-9]{0,11}", word))


def story_fits(words, whole):
    if words[:1] == ["-"]:
        return len(words) == 1
    if len(words) > 400 or (whole and (len(words) % 2 or not words)):
        return False
    return all(is_name(word) for word in words[::2]) and all(word == "-" or is_label(word) for word in words[1::2])


def gates_fit(words, whole):
    names, ratios = words[::2], [share(word) for word in words[1::2]]
    if None in ratios or len(names) > 20 or (whole and (len(words) % 2 or not words)):
        return False
    if not all(is_name(name) for name in names) or len(set(names)) < len(names):
        return False
    return all(one < other for one, other in zip([0, *ratios], ratios))


class StoryTest(Case):
    def test_example(self):
        story = Story(("x", "hit"), ["y", "miss"]).then("x", None)
        self.assertEqual([str(story), story.names, story.signs_of("x"), str(Story())],
                         ["x hit y miss x -", ("x", "y"), ("hit", None), "-"])

    def test_parts(self):
        story = Story(["x", "hit"], ("y", None), ("x", "a.b"), ("x", "hit"))
        self.assertEqual(story.steps, (("x", "hit"), ("y", None), ("x", "a.b"), ("x", "hit")))
        self.assertEqual((len(story), list(story), story.names), (4, list(story.steps), ("x", "y")))
        self.assertEqual((story.signs_of("x"), story.signs_of("y"), story.signs_of(name="z")), (("hit", "a.b", "hit"), (None,), ()))
        for value in [value for value in ANY_VALUES if value != "x"]:
            self.assertEqual(story.signs_of(value), ())
        for value in (("x", "hit"), ["x", "hit"], ["y", None], ("x", "a.b")):
            self.assertTrue(value in story)
        for value in [*ANY_VALUES, ("x",), ("y", "hit"), ("x", None), ("x", "hit", 1), ["x", ["hit"]], "xh", {"x": "hit"}, ("hit", "x")]:
            self.assertIs(value in story, False)
        self.assertEqual((Story().steps, Story().names, len(Story()), Story.MOST), ((), (), 0, 200))

    def test_then(self):
        story = Story(("x", "hit"))
        self.assertEqual(story.then(name="y", sign=None), Story(("x", "hit"), ("y", None)))
        self.assertEqual(story, Story(("x", "hit")))
        for value in ANY_VALUES:
            if value != "x":
                self.refused(BadStory, {"part": "steps"}, story.then, value, "hit")
            if value not in ("x", None):
                self.refused(BadStory, {"part": "steps"}, story.then, "x", value)

    def test_equality(self):
        stories = [Story(), Story(("x", "hit")), Story(("x", None)), Story(("y", "hit")), Story(("x", "hit"), ("y", "hit")),
                   Story(("y", "hit"), ("x", "hit"))]
        for one, other in itertools.combinations(stories, 2):
            self.assertTrue(one != other and not one == other)
        self.assertEqual(Story(["x", "hit"]), Story(("x", "hit")))
        for value in [*ANY_VALUES, (("x", "hit"),)]:
            self.assertIs(stories[1] == value, False)
            self.assertIs(Story() == value, False)

    def test_bad_steps(self):
        for value in [*ANY_VALUES, ("x",), ("x", "hit", 1), ("x.y", "hit"), ("X", "hit"), ("x", "-"), ("x", ""), ("x", 1), "xy", {"x": 1, "y": 2},
                      ("x", "a.b.c.d.e.f.g")]:
            self.refused(BadStory, {"part": "steps"}, Story, ("x", "hit"), value)
        many = [("x", "hit")] * 201
        self.assertEqual(len(Story(*many[:200])), 200)
        self.refused(TooMany, {"what": "steps", "most": 200}, Story, *many)
        self.refused(BadStory, {"part": "steps"}, Story, *many, None)
        self.refused(TooMany, {"what": "steps", "most": 200}, Story(*many[:200]).then, "x", None)
        self.refused(BadStory, {"part": "steps"}, Story(*many[:200]).then, "x", 5)

    def test_texts(self):
        rng = rng_of(171)
        for _ in range(60):
            story = Story(*[(rng.choice("xyz"), rng.choice(["hit", "a.b", None])) for _ in range(rng.randrange(5))])
            self.assertEqual(Story.read(str(story)), story)
        words, told = ["-", "x", "hit", "a.b", "", "X", "a.b.c.d.e.f.g", "1"], 0
        for _ in range(1500):
            text = bent(rng, str(Story(*[(rng.choice("xyz"), rng.choice(["hit", "a.b", None])) for _ in range(rng.randrange(4))])), words)
            parts = text.split(" ")
            word = first_bad_word(parts, lambda some: story_fits(some, False), lambda some: story_fits(some, True))
            if word is None:
                self.assertEqual(str(Story.read(text)), text)
            else:
                told += 1
                self.refused_text(word, Story.read, text)
        self.assertGreater(told, 500)
        for value in NO_TEXTS:
            self.refused_text(0, Story.read, value)
        for text, word in (("", 0), ("- x", 1), ("- -", 1), ("x", 1), ("x hit y", 3), ("a.b hit", 0), ("x hit ", 2), ("x  hit", 1), (" x hit", 0),
                           ("x hit - hit", 2), ("-x hit", 0)):
            self.refused_text(word, Story.read, text)
        full = " ".join(["x -"] * 200)
        self.assertEqual(len(Story.read(full)), 200)
        self.refused_text(400, Story.read, f"{full} x -")
        self.refused_text(400, Story.read, f"{full} -")


class GatesTest(Case):
    def test_example(self):
        gates = Gates.read("all 1/20 part 1/4")
        self.assertEqual([gates.at(Ratio(1, 20)), gates.at(Ratio(1, 2)), [(name, str(bound)) for name, bound in gates.bounds(Ratio(1, 10))]],
                         ["all", None, [("all", "1"), ("part", "2/5")]])

    def test_parts(self):
        gates = Gates(["a", Ratio(1, 4)], ("b", 1), ("c", 3))
        self.assertEqual((gates.pairs, list(gates), len(gates), str(gates)),
                         ((("a", Ratio(1, 4)), ("b", 1), ("c", 3)), list(gates.pairs), 3, "a 1/4 b 1 c 3"))
        self.all_ratios([ratio for _, ratio in gates])
        self.assertEqual([gates.at(fear) for fear in (0, Ratio(1, 5), Ratio(1, 4), Ratio(13, 50), 1)], ["a", "a", "a", "b", "b"])
        self.assertEqual(Gates(("a", HALF)).at(fear=1), None)
        self.assertEqual(gates.bounds(0), (("a", 0), ("b", 0), ("c", 0)))
        self.assertEqual(gates.bounds(fear=1), (("a", 1), ("b", 1), ("c", Ratio(1, 3))))
        self.all_ratios([bound for _, bound in gates.bounds(1)])
        self.assertEqual(Gates.MOST, 20)
        rng = rng_of(172)
        for _ in range(60):
            ratios = sorted({rng.randint(1, 12) for _ in range(rng.randint(1, 5))})
            gates = Gates(*[(f"g{at}", Ratio(top, 9)) for at, top in enumerate(ratios)])
            fear = Ratio(rng.randint(0, 9), 9)
            below = [name for name, ratio in gates if number(fear) <= number(ratio)]
            self.assertEqual(gates.at(fear), below[0] if below else None)
            self.assertEqual([(name, number(bound)) for name, bound in gates.bounds(fear)],
                             [(name, min(1, number(fear) / number(ratio))) for name, ratio in gates])

    def test_bad_fears(self):
        gates = Gates(("a", HALF))
        for value in [*[value for value in ANY_VALUES if value not in (0, 1, HALF) or isinstance(value, bool)], -1, 2, Ratio(3, 2), Ratio(-1, 2)]:
            self.refused(BadRatio, {"part": "fear"}, gates.at, value)
            self.refused(BadRatio, {"part": "fear"}, gates.bounds, value)

    def test_bad_pairs(self):
        self.refused(BadNumbers, {"part": "pairs"}, Gates)
        for value in [*ANY_VALUES, ("a",), ("a", 1, 1), ("a.b", 1), ("A", 1), (1, "a"), ("a", True), ("a", 0), ("a", -1), ("a", None), "a1",
                      ("a", Ratio(1, 4)), ("a", HALF)]:
            self.refused(BadNumbers, {"part": "pairs"}, Gates, ("b", HALF), value)
        for value in (("a", 0), ("a", Ratio(-1, 2)), ("a", False)):
            self.refused(BadNumbers, {"part": "pairs"}, Gates, value)
        many = [(name, at + 1) for at, name in enumerate(NAMES)]
        self.assertEqual(len(Gates(*many[:20])), 20)
        self.refused(TooMany, {"what": "pairs", "most": 20}, Gates, *many)
        self.refused(Twice, {"name": "b"}, Gates, ("a", 1), ("b", 2), ("b", 3), ("a", 4))
        self.refused(Twice, {"name": "n3"}, Gates, *many, ("n3", 99))
        self.refused(BadNumbers, {"part": "pairs"}, Gates, *many, ("n3", 1))

    def test_equality(self):
        gates = [Gates(("a", HALF)), Gates(("b", HALF)), Gates(("a", 1)), Gates(("a", HALF), ("b", 1))]
        for one, other in itertools.combinations(gates, 2):
            self.assertTrue(one != other and not one == other)
        self.assertEqual(Gates(["a", Ratio(2, 2)]), Gates(("a", 1)))
        for value in [*ANY_VALUES, (("a", HALF),)]:
            self.assertIs(gates[0] == value, False)

    def test_texts(self):
        rng = rng_of(173)
        words, told = ["a", "b", "1", "1/2", "2/4", "0", "-1", "", "a.b", "A", "1" * 61], 0
        for _ in range(1500):
            ratios = sorted({rng.randint(1, 12) for _ in range(rng.randint(1, 4))})
            gates = Gates(*[(f"g{at}", Ratio(top, 9)) for at, top in enumerate(ratios)])
            self.assertEqual(Gates.read(str(gates)), gates)
            text = bent(rng, str(gates), words)
            word = first_bad_word(text.split(" "), lambda some: gates_fit(some, False), lambda some: gates_fit(some, True))
            if word is None:
                self.assertEqual(str(Gates.read(text)), text)
            else:
                told += 1
                self.refused_text(word, Gates.read, text)
        self.assertGreater(told, 800)
        for value in NO_TEXTS:
            self.refused_text(0, Gates.read, value)
        for text, word in (("", 0), ("a", 1), ("a 0", 1), ("a 1 b 1", 3), ("a 1 a 2", 2), ("a 1 b", 3), ("a 1 b 1/2", 3), ("a 1 ", 2), ("a -1", 1),
                           ("a 1/1", 1)):
            self.refused_text(word, Gates.read, text)
        full = " ".join(f"{name} {at + 1}" for at, name in enumerate(NAMES[:20]))
        self.assertEqual(len(Gates.read(full)), 20)
        self.refused_text(40, Gates.read, f"{full} {NAMES[20]} 21")


if __name__ == "__main__":
    unittest.main()

import unittest

from peekproof.boards import AtLeast, Board, Named
from peekproof.crowds import Crowd
from peekproof.errors import BadText, Nothing
from peekproof.gates import Gates
from peekproof.late import Late
from peekproof.lost import Lost
from peekproof.made import in_a_row
from peekproof.misread import Misread
from peekproof.ratios import Ratio
from peekproof.reader import CLASSES, read_line, value_of, word_of
from peekproof.stories import Story
from peekproof.studies import Study
from peekproof.tables import Table
from peekproof.watches import Joined, Watch
from tests import line_oracle
from tests.line_oracle import LINES, drawn_line, line_word
from tests.support import ANY_VALUES, NO_TEXTS, Case, bent, drawn_crowd, drawn_study, rng_of
from tests.test_solved import QUARTER, TURN

HALF = Ratio(1, 2)
VALUES = {"crowd": Crowd.between(("hit", "miss"), HALF, 1), "table": Table.same(("hit", "miss")), "watch": TURN, "study": QUARTER,
          "board": AtLeast(1, Named("x"), Named("y")), "story": Story(("x", "hit"), ("x", None)), "gates": Gates(("a", HALF), ("b", 1))}


class ClassesTest(Case):
    def test_words_and_values(self):
        self.assertEqual(CLASSES, ("crowd", "table", "watch", "study", "board", "story", "gates"))
        for word, value in VALUES.items():
            found = value_of(word, str(value))
            self.assertEqual((found, found.__class__), (value, value.__class__))
            self.assertEqual((word_of(value), value_of(word=word, text=str(value))), (word, value))
            for text in NO_TEXTS:
                self.refused_text(0, lambda text: value_of(word, text), text)
            self.refused_text(0, lambda text: value_of(word, text), "")

    def test_classes_below(self):
        one = in_a_row(1)
        for value, word in ((Joined(one, one), "watch"), (Lost(QUARTER), "study"), (Late(QUARTER), "study"), (Misread(QUARTER, {}), "study"),
                            (Named("x"), "board"), (Named("x") | Named("y"), "board"), (Story(), "story")):
            self.assertEqual(word_of(value=value), word)
        for value in [*ANY_VALUES, Crowd, Board, HALF, CLASSES]:
            self.assertIsNone(word_of(value))

    def test_other_words(self):
        for value in [*ANY_VALUES, "Crowd", "crowds", "log", "bet", "crowd "]:
            self.refused(Nothing, {}, value_of, value, "hit 1")
            self.refused(Nothing, {}, value_of, value, None)

    def test_bent_texts(self):
        rng = rng_of(191)
        for _ in range(400):
            word = rng.choice(CLASSES)
            text = bent(rng, str(VALUES[word]), ["x", "1", "/", "|", ")", "-", ""])
            try:
                value = value_of(word, text)
                self.assertEqual((str(value), read_line(f"keep n {word} {text}")), (text, ("keep", "n", word, text)))
            except BadText as error:
                self.refused_text(3 + error.word, read_line, f"keep n {word} {text}")


class LineTest(Case):
    def test_example(self):
        self.assertEqual(read_line("keep fair crowd hit 1/2 miss 1/2"), ("keep", "fair", "crowd", "hit 1/2 miss 1/2"))

    def test_each_line_of_the_tables(self):
        for line in ("drop x", "study s w coin c", "study s w coin c card c", "nest n s a t", "flat f s a.b t", "misread m s t", "lose l s 0",
                     "repeat r s 12", "delay d s 2", "open b x s", "open b x s y s", "see x hit", "see x a.b", "stop x", "back", "again", "turn b",
                     "names", "show x", "after w hit", "after w hit hit a.b", "sure s", "greatest s", "worth s lit 1", "worth s lit 1 dark -1/2",
                     "least s", "dearest s", "soonest s", "shape s", "form b x 1/2 y 0", "worst b x 1", "tied 2 x 1/2 y 1/2", "within w w",
                     "lead w v coin c", "fear", "peak", "hope", "likely", "story", "lasting", "lit", "place x", "choices x", "would x -",
                     "would x hit x hit x -", "would x a.b"):
            self.assertEqual(read_line(line), tuple(line.split(" ")))
            self.assertIsNone(line_word(line))
        self.assertEqual(len(LINES), 39)
        for word, value in VALUES.items():
            self.assertEqual(read_line(line=f"keep k {word} {value}"), ("keep", "k", word, str(value)))

    def test_words_that_cannot_stand(self):
        for line, word in (("", 0), ("x", 0), ("Drop x", 0), ("drop", 1), ("drop x y", 2), ("drop x ", 2), ("drop  x", 1), (" drop x", 0),
                           ("drop a.b", 1), ("drop X", 1), ("study s w", 3), ("study s w a", 4), ("study s w a c b", 6), ("study s w a c a c", 5),
                           ("study s w a c.d", 4), ("nest s w a x a y", 5), ("flat f s", 3), ("misread m s", 3), ("misread m s t u", 4),
                           ("lose l s -1", 3), ("lose l s 01", 3), ("lose l s 1/2", 3), ("lose l s x", 3), ("lose l s -0", 3), ("delay d s", 3),
                           ("lose l s " + "1" * 61, 3), ("open b", 2), ("open b x", 3), ("open b x s x s", 4), ("open b x.y s", 2), ("see x", 2),
                           ("see x -", 2), ("see x.y hit", 1), ("back x", 1), ("names x", 1), ("after w", 2), ("after w hit -", 3), ("worth s", 2),
                           ("worth s lit", 3), ("worth s lit 1 lit 1", 4), ("worth s lit 2/4", 3), ("worth s - 1", 2), ("form b", 2),
                           ("form b x 1 x 1", 4), ("form b x.y 1", 2), ("tied x", 1), ("tied 1", 2), ("tied 1/2 x 1", 1), ("tied -1 x 1", 1),
                           ("tied 1 x 1 y", 5), ("within w", 2), ("within w v u", 3), ("lead w v", 3), ("lead w v a c a d", 5), ("would", 1),
                           ("would x", 2), ("would x hit y", 4), ("would x.y hit", 1), ("would x hit -", 3), ("would -", 1), ("keep", 1), ("keep x", 2),
                           ("keep x crowd", 3), ("keep x crowd ", 3), ("keep x log y", 2), ("keep x.y crowd hit 1", 1), ("keep x crowd hit", 4),
                           ("keep x crowd hit 1/2 miss 1/3", 7), ("keep x crowd hit 1 miss 0 /", 8), ("keep x board ( any x x )", 6),
                           ("keep x board ( any x )  ", 7), ("keep x story -", None), ("keep x story - x", 4), ("keep x gates a 0", 4)):
            self.assertEqual(line_word(line), word, line)
            if word is None:
                self.assertEqual(read_line(line)[:3], tuple(line.split(" ")[:3]))
            else:
                self.refused_text(word, read_line, line)
        for value in NO_TEXTS:
            self.refused_text(0, read_line, value)

    def test_drawn_and_bent_lines(self):
        rng = rng_of(192)
        told = {True: 0, False: 0}
        words = ["-", "x", "1/2", "", "a.b", "0", "-1", "X", "names", "..", "hit", "1.5"]
        for _ in range(4000):
            line = drawn_line(rng)
            if rng.randrange(2):
                line = bent(rng, line, words)
            word = line_word(line)
            told[word is None] += 1
            if word is None:
                self.assertEqual(read_line(line), tuple(line.split(" ")) if line[:5] != "keep " else read_line(line))
            else:
                self.refused_text(word, read_line, line)
        self.assertGreater(min(told.values()), 1000)

    def test_what_is_kept_is_read(self):
        rng = rng_of(193)
        for _ in range(60):
            study = drawn_study(rng, rng.randint(1, 3))
            crowd = drawn_crowd(rng, ("a", "b"), 2)
            for word, value in (("study", study), ("watch", study.watch), ("crowd", crowd)):
                line = read_line(f"keep name {word} {value}")
                self.assertEqual(value_of(line[2], line[3]), value)
        self.assertEqual(line_oracle.CLASSES, CLASSES)
        self.assertIsInstance(value_of("watch", str(TURN)), Watch)
        self.assertIsInstance(value_of("study", str(Lost(QUARTER))), Study)


if __name__ == "__main__":
    unittest.main()

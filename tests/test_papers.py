import unittest

from peekproof.allowed import Beyond, Covered, Lean, Mixed, Parted
from peekproof.greatest import Greatest
from peekproof.least import Least
from peekproof.likeness import Alike, Unlike
from peekproof.papers import Denial, Paper, fixed
from peekproof.ratios import Ratio
from peekproof.sure import Sure, Trap
from tests.support import ANY_VALUES, Case

CLASSES = ((Mixed, Paper, "weights"), (Parted, Denial, "factors"), (Covered, Paper, "lines"),
           (Beyond, Denial, "index factors"), (Lean, Paper, "kept left"), (Alike, Paper, "pairs"),
           (Unlike, Denial, "row"), (Sure, Paper, "ranks"), (Trap, Denial, "row corners"),
           (Greatest, Paper, "number table corners ranks"), (Least, Paper, "number table corners ranks"))


class PaperTest(Case):
    def test_fixed(self):
        self.assertEqual(fixed([1, {"b": [2], "a": None}]), (1, (("a", None), ("b", (2,)))))
        self.assertEqual(fixed({3: {"z": []}, -1: ({},)}), ((-1, ((),)), (3, (("z", ()),))))
        self.assertEqual(fixed({"s10": 1, "s2": 2}), (("s10", 1), ("s2", 2)))
        half = Ratio(1, 2)
        self.assertIs(fixed([half])[0], half)
        for value in (None, True, 1, "ab", b"x", {1, 2}):
            self.assertEqual(fixed(value), value)
        deep = []
        for _ in range(99):
            deep = [deep]
        told = fixed(deep)
        for _ in range(99):
            self.assertIsInstance(told, tuple)
            told = told[0]
        self.assertEqual(told, ())

    def test_paper_and_denial(self):
        paper = Paper("some", [1, {"a": [2]}], None)
        self.assertEqual((paper.word, paper.parts), ("some", ((1, (("a", (2,)),)), None)))
        self.assertEqual(Paper("none").parts, ())
        self.assertTrue(paper and Paper("x") and Paper("x", 0))
        self.assertFalse(Denial("some", 1))
        self.assertIsInstance(Denial("x"), Paper)
        self.assertEqual(Denial("some", [1]).parts, ((1,),))

    def test_equality(self):
        self.assertTrue(Paper("x", [1]) == Paper("x", (1,)))
        self.assertTrue(Paper("x", Ratio(1)) == Paper("x", 1))
        self.assertTrue(Paper("x", 1) == Denial("x", 1) and Denial("x", 1) == Paper("x", 1))
        self.assertTrue(Paper("mixed", (1,)) == Mixed([1]) and Mixed([1]) == Paper("mixed", (1,)))
        self.assertFalse(Paper("x", 1) == Paper("y", 1) or Paper("x", 1) == Paper("x", 2) or Paper("x") == Paper("x", 1))
        self.assertTrue(Paper("x", 1) != Paper("x", 2))
        for value in ANY_VALUES:
            self.assertIs(Paper("x") == value, False)
            self.assertIs(Denial("x") == value, False)

    def test_classes_of_papers(self):
        for kind, base, told in CLASSES:
            names = told.split()
            for value in ANY_VALUES:
                values = [[value, name] for name in names]
                for paper in (kind(*values), kind(**dict(zip(names, values)))):
                    self.assertEqual(paper.word, kind.__name__.lower())
                    self.assertEqual(len(paper.parts), len(names))
                    for name, part, item in zip(names, paper.parts, values):
                        self.assertIs(getattr(paper, name), part)
                        self.assertEqual(repr(part), repr(fixed(item)))
                    self.assertIs(bool(paper), base is Paper)
            self.assertTrue(issubclass(kind, base))
            self.assertEqual(issubclass(kind, Denial), base is Denial)


if __name__ == "__main__":
    unittest.main()

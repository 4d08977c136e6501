import unittest

from peekproof.errors import BadTable, BadText
from peekproof.ratios import Ratio
from peekproof.tables import Table
from tests.parts_oracle import Parts
from tests.support import ANY_VALUES, NO_TEXTS, Case, bent, drawn_chances, first_bad_word, rng_of

NAMES = [f"n{at}" for at in range(13)]
HALF = Ratio(1, 2)
ORACLE = Parts(";", 12, True)


def drawn_table(rng, sources, targets):
    return Table(sources, targets, [drawn_chances(rng, len(targets)) for _ in sources])


class TableTest(Case):
    def setUp(self):
        self.table = Table(["a", "b"], ("x", "y", "z"), [(HALF, 0, HALF), [0, 1, 0]])

    def test_attributes(self):
        table = self.table
        self.assertEqual((table.sources, table.targets), (("a", "b"), ("x", "y", "z")))
        self.assertEqual(table.lines, ((HALF, 0, HALF), (0, 1, 0)))
        self.all_ratios([chance for line in table.lines for chance in line])
        self.assertEqual((list(table), Table.MOST), (["a", "b"], 12))
        self.assertEqual(Table(rows=[[1]], targets=["x"], sources=["a"]).lines, ((1,),))

    def test_what_is_passed_is_copied(self):
        sources, targets, rows = ["a"], ["x", "y"], [[1, 0]]
        table = Table(sources, targets, rows)
        sources.append("b")
        targets[0] = "q"
        rows[0][0] = 0
        self.assertEqual(str(table), "a x 1 y 0")

    def test_bad_parts(self):
        bad_labels = [value for value in ANY_VALUES] + [["a", "a"], ["A"], NAMES, [[]], ["a", {}], "a", {"a": 1}]
        for value in bad_labels:
            self.refused(BadTable, {"part": "sources"}, Table, value, value, value)
            self.refused(BadTable, {"part": "targets"}, Table, ["a"], value, value)
        for rows in [*ANY_VALUES, [[1], [1]], [[2]], [[1, 0]], [(HALF,)], [[True]], [[None]], ["1"], [{"x": 1}], {0: [1]}]:
            self.refused(BadTable, {"part": "rows"}, Table, ["a"], ["x"], rows)
        for row in ([Ratio(-1, 2), Ratio(3, 2)], [HALF, Ratio(1, 3)], [HALF, Ratio(2, 3)], [], [1], [1, 0, 0]):
            self.refused(BadTable, {"part": "rows"}, Table, ["a"], ["x", "y"], [row])
        Table(NAMES[:12], NAMES[:12], [[1] + [0] * 11] * 12)

    def test_chances(self):
        self.assertEqual(self.table["a", "z"], HALF)
        self.assertEqual(self.table["b", "x"], 0)
        self.assertEqual(self.table.chances_of("a"), (("x", HALF), ("z", HALF)))
        self.assertEqual(self.table.chances_of("b"), (("y", 1),))
        for value in [value for value in ANY_VALUES if value != "x"] + ["c", "lit"]:
            self.refused(BadTable, {"part": "source"}, self.table.__getitem__, (value, "q"))
            self.refused(BadTable, {"part": "target"}, self.table.__getitem__, ("a", value))
            self.refused(BadTable, {"part": "source"}, self.table.chances_of, value)
        self.refused(BadTable, {"part": "source"}, self.table.chances_of, "x")

    def test_behind(self):
        rng = rng_of(2)
        for _ in range(30):
            one = drawn_table(rng, NAMES[:rng.randint(1, 4)], ["x", "y"])
            other = drawn_table(rng, ["x", "y"], NAMES[:rng.randint(1, 4)])
            both = one * other
            self.assertEqual((both.sources, both.targets), (one.sources, other.targets))
            for source in one:
                for target in other.targets:
                    told = one[source, "x"] * other["x", target] + one[source, "y"] * other["y", target]
                    self.assertEqual(both[source, target], told)
            self.assertEqual(one * Table.same(["x", "y"]), one)
            self.assertEqual(Table.same(one.sources) * one, one)
        for value in ANY_VALUES:
            self.refused(BadTable, {"part": "other"}, lambda: self.table * value)
        self.refused(BadTable, {"part": "fit"}, lambda: self.table * self.table)
        self.refused(BadTable, {"part": "fit"}, lambda: self.table * Table.same(["x", "z", "y"]))

    def test_equality_and_same(self):
        self.assertEqual(self.table, Table(("a", "b"), ["x", "y", "z"], (("1/2" and HALF, Ratio(0), HALF), (0, 1, 0))))
        self.assertNotEqual(self.table, Table(["b", "a"], ["x", "y", "z"], [(0, 1, 0), (HALF, 0, HALF)]))
        self.assertNotEqual(self.table, Table(["a", "b"], ["x", "z", "y"], [(HALF, HALF, 0), (0, 0, 1)]))
        self.assertNotEqual(self.table, Table(["a", "b"], ["x", "y", "z"], [(HALF, HALF, 0), (0, 1, 0)]))
        for value in ANY_VALUES:
            self.assertIs(self.table == value, False)
        self.assertEqual(str(Table.same(("a", "b"))), "a a 1 b 0 ; b a 0 b 1")
        for value in [*ANY_VALUES, ["a", "a"], NAMES]:
            self.refused(BadTable, {"part": "sources"}, Table.same, value)


class TableTextTest(Case):
    def test_written_and_read(self):
        self.assertEqual(str(Table(["a", "b"], ["x", "y"], [[HALF, HALF], [0, 1]])), "a x 1/2 y 1/2 ; b x 0 y 1")
        rng = rng_of(3)
        for _ in range(60):
            table = drawn_table(rng, NAMES[:rng.randint(1, 12)], NAMES[:rng.randint(1, 12)])
            self.assertEqual(Table.read(str(table)), table)
            self.assertIs(Table.read(str(table)).__class__, Table)

    def test_words_that_cannot_stand(self):
        twelve = " ".join(f"{name} 1/24" for name in NAMES[:11])
        parts = " ; ".join(f"{name} x 1" for name in NAMES[:12])
        for text, word in (("", 0), ("A", 0), (";", 0), ("a", 1), ("a ", 1), ("a X", 1), ("a x", 2), ("a x 1/2", 3),
                           ("a x 1/2 ;", 3), ("a x 1 ;", 4), ("a x 1 ; a x 1", 4), ("a x 1 ; b", 5), ("a x 1 ; b y", 5),
                           ("a x 1 ; b x 1/2", 6), ("a x 1 ; b x", 6), ("a x 1 ; b x 1 y", 7), ("a x -1", 2),
                           ("a x 2", 2), ("a x 1 x 0", 3), ("a x 1 y 1", 4), ("a x 1/2 x 1/2", 3), ("a x 1 y 0 ;", 6),
                           ("a x 1 y 0 ; b x 1 ;", 9), ("a x 1 y 0 ; b y", 7), ("a x 1 y 0 ; b x 1 y 1/2", 10),
                           ("a x 1/2 y 1/2 ; b x 3/4 y 1/2", 10), ("a x 1/2 y 1/2 ; b x 1/4 y 1/2", 10),
                           ("a x 1 ;; b x 1", 3), ("a  x 1", 1), ("a x 1 ", 3), ("a x True", 2), ("a x 1.0", 2),
                           (f"a {twelve} n11 1/2", 24), (f"a {twelve} n11 14/24", 24), (f"a {twelve} n11 13/24 q", 25),
                           (f"a {twelve} n11 13/24 n12 0", 25), (f"{parts} ; n12 x 1", 47)):
            self.refused_text(word, Table.read, text)
        self.assertEqual(len(Table.read(f"a {twelve} n11 13/24").targets), 12)
        self.assertEqual(len(Table.read(parts).sources), 12)
        for value in NO_TEXTS:
            self.refused(BadText, {"line": 0, "word": 0}, Table.read, value)

    def test_bent_texts(self):
        rng = rng_of(4)
        words = ["a", "x", "y", "n0", "n1", "1", "0", "1/2", "1/3", ";", "/", "", "-1/2", "A"]
        for _ in range(3000):
            text = str(drawn_table(rng, NAMES[:rng.randint(1, 3)], ["x", "y", "z"][:rng.randint(1, 3)]))
            for _ in range(rng.randint(1, 2)):
                text = bent(rng, text, words)
            told = first_bad_word(text.split(" "), ORACLE.can_begin, ORACLE.is_whole)
            if told is None:
                self.assertEqual(str(Table.read(text)), text)
            else:
                self.refused_text(told, Table.read, text)


if __name__ == "__main__":
    unittest.main()

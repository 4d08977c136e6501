import unittest

from peekproof.check_solved import shows_greatest, shows_least, shows_sure
from peekproof.crowds import Crowd
from peekproof.errors import BadStudy, BadWorths
from peekproof.greatest import Greatest, greatest
from peekproof.least import Least, least
from peekproof.papers import Denial, Paper
from peekproof.ratios import Ratio
from peekproof.studies import Study
from peekproof.sure import Sure, Trap, sure
from peekproof.watches import Watch
from tests.paper_oracle import are_sure_ranks, bent_paper, is_greatest, is_least, is_trap
from tests.support import ANY_VALUES, Case, drawn_study, rng_of
from tests.test_solved import QUARTER, TURN, WRONG_WORTHS, drawn_worths, long_study

COIN = ("sale", "miss")
HALF = Ratio(1, 2)
LOOP = Study(Watch({"coin": COIN}, ["lit"], [("a", "coin", ("b", "lit")), ("b", "coin", ("a", "b")),
                                            ("c", "coin", ("c", "c"))]),
             {"coin": Crowd.between(COIN, 0, 1)})


class SureTest(Case):
    def test_plain_cases(self):
        self.assertTrue(shows_sure(QUARTER, Sure({"one": 1, "two": 1})))
        self.assertTrue(shows_sure(QUARTER, Sure({"one": 5, "two": 10 ** 70})))
        sure_sale = Study(TURN, {"coin": Crowd.just(COIN, [0, 1])})
        self.assertTrue(shows_sure(sure_sale, Sure({"one": 2, "two": 1})))
        for ranks in ({"one": 1, "two": 1}, {"one": 2, "two": 2}, {"one": 2, "two": 0}, {"one": 1}, {"one": 2},
                      {"one": 2, "two": True}, {"one": Ratio(2), "two": 1}, {"one": 2, "two": 1, "x": 1}, {}, 5, None):
            self.assertIs(shows_sure(sure_sale, Sure(ranks)), False)

    def test_pairs_count_as_fixed_gives_them(self):
        self.assertTrue(shows_sure(QUARTER, Sure([["one", 1], ("two", 1)])))
        for ranks in ([("two", 1), ("one", 1)], [("one", 1), ("one", 1), ("two", 1)], [("one", 1, 1), ("two", 1)],
                      [("one",), ("two", 1)], ["one", "two"], [("one", 1), ("two", (1,))]):
            self.assertIs(shows_sure(QUARTER, Sure(ranks)), False)

    def test_traps(self):
        self.assertEqual(sure(LOOP), Trap((), {"a": 1, "b": 0}))
        for row, corners in (((), {"a": 1, "b": 0}), (("sale",), {"b": 0}), (("sale", "miss", "miss"), {"b": 0}),
                             (["sale"], {"a": 1, "b": 1}), (("sale", "sale"), {"a": 1, "b": 0})):
            self.assertTrue(shows_sure(LOOP, Trap(row, corners)))
        for row, corners in (((), {"b": 0}), ((), {"a": 1}), ((), {"a": 0, "b": 0}), ((), {}), ((), {"a": 1, "b": 2}),
                             (("miss",), {"a": 1, "b": 0}), (("miss", "sale"), {"a": 1, "b": 0}), ((), {"c": 0}),
                             (("x",), {"b": 0}), ((5,), {"b": 0}), ("sale", {"b": 0}), (None, {"b": 0}),
                             ((), {"a": 1, "b": 0, "c": 0}), ((), {"a": True, "b": 0}), ((), [("b", 0), ("a", 1)]),
                             (("sale", "sale", "miss"), {"b": 0}), ((), 7)):
            self.assertIs(shows_sure(LOOP, Trap(row, corners)), False)

    def test_rows_must_be_possible(self):
        lines = [("a", "coin", ("b", "a")), ("b", "coin", ("b", "b"))]
        study = Study(Watch({"coin": COIN}, ["lit"], lines), {"coin": Crowd.just(COIN, [0, 1])})
        self.assertTrue(shows_sure(study, Trap((), {"a": 0})))
        self.assertTrue(shows_sure(study, Trap(("miss",), {"a": 0})))
        for paper in (Trap(("sale",), {"a": 0}), Trap((), {"a": 0, "b": 0}), Trap(("sale",), {"b": 0})):
            self.assertIs(shows_sure(study, paper), False)

    def test_other_values(self):
        for value in [*ANY_VALUES, Paper("sure", {"one": 1, "two": 1}), Denial("trap", (), {}), greatest(QUARTER)]:
            self.assertIs(shows_sure(QUARTER, value), False)
            for value in ANY_VALUES:
                for paper in (Sure(value), Trap(value, value), Trap((), value), Trap(value, {"one": 0})):
                    self.assertIs(shows_sure(QUARTER, paper), False)

    def test_drawn_studies(self):
        rng = rng_of(41)
        counts = {(kind, shown): 0 for kind in (Sure, Trap) for shown in (True, False)}
        for _ in range(250):
            study = drawn_study(rng, rng.randint(1, 4), most=1)
            paper = sure(study)
            self.assertTrue(shows_sure(study, paper))
            for _ in range(12):
                other = bent_paper(rng, paper)
                wanted = are_sure_ranks(study, other.ranks) if paper else is_trap(study, other)
                self.assertIs(shows_sure(study, other), wanted)
                counts[type(paper), wanted] += 1
        self.assertTrue(min(counts.values()) > 30, counts)

    def test_studies_of_any_size(self):
        large = long_study(41)
        self.assertTrue(shows_sure(large, sure(large)))
        for value in [*ANY_VALUES, TURN]:
            self.refused(BadStudy, {"part": "study"}, shows_sure, value, value)


class GreatestTest(Case):
    def setUp(self):
        self.right = ({"one": Ratio(9, 16), "two": Ratio(3, 4)}, {"one": 0, "two": 1}, {"one": 2, "two": 1})

    def test_plain_cases(self):
        table, corners, ranks = self.right
        self.assertTrue(shows_greatest(QUARTER, Greatest(Ratio(9, 16), table, corners, ranks)))
        self.assertTrue(shows_greatest(QUARTER, Greatest(Ratio(9, 16), table, corners, {"one": 9, "two": 8})))
        for paper in (Greatest(Ratio(3, 4), table, corners, ranks), Greatest(None, table, corners, ranks),
                      Greatest(Ratio(9, 16), {**table, "lit": 1}, corners, ranks),
                      Greatest(Ratio(9, 16), {"one": Ratio(9, 16)}, corners, ranks),
                      Greatest(Ratio(9, 16), table, {"one": 1, "two": 1}, ranks),
                      Greatest(Ratio(9, 16), table, {"one": 0, "two": 2}, ranks),
                      Greatest(Ratio(9, 16), table, corners, {"one": 1, "two": 1}),
                      Greatest(Ratio(9, 16), table, corners, {"two": 1}), Greatest(1, {"one": 1, "two": 1}, corners, ranks),
                      Least(Ratio(9, 16), table, corners, ranks),
                      Paper("greatest", Ratio(9, 16), table, corners, ranks)):
            self.assertIs(shows_greatest(QUARTER, paper), False)

    def test_a_table_that_keeps_itself_up_has_no_ranks(self):
        study = Study(Watch({"coin": COIN}, ["lit"], [("a", "coin", ("a", "a"))]), {"coin": Crowd.just(COIN, [1, 0])})
        self.assertIs(shows_greatest(study, Greatest(1, {"a": 1}, {"a": 0}, {"a": 1})), False)
        self.assertIs(shows_greatest(study, Greatest(0, {"a": 0}, {"a": 0}, {"a": 1})), False)
        self.assertTrue(shows_greatest(study, Greatest(0, {"a": 0}, {"a": 0}, {})))
        self.assertIs(shows_greatest(study, Greatest(False, {"a": 0}, {"a": 0}, {})), False)
        self.assertIs(shows_greatest(study, Greatest(0, {"a": False}, {"a": 0}, {})), False)
        self.assertIs(shows_greatest(study, Greatest(0, {"a": 0}, {"a": False}, {})), False)

    def test_any_value_in_each_part(self):
        for value in ANY_VALUES:
            self.assertIs(shows_greatest(QUARTER, value), False)
            for at in range(4):
                for kind, call in ((Greatest, shows_greatest), (Least, shows_least)):
                    parts = [Ratio(9, 16), *self.right]
                    parts[at] = value
                    self.assertIs(call(QUARTER, kind(*parts)), False)
                    for key in ("one", "two"):
                        if at:
                            parts[at] = {**self.right[at - 1], key: value}
                            self.assertIn(call(QUARTER, kind(*parts)), (True, False))

    def test_drawn_studies(self):
        rng = rng_of(42)
        counts = {True: 0, False: 0}
        for _ in range(200):
            study = drawn_study(rng, rng.randint(1, 4), most=2)
            worths = drawn_worths(rng, study)
            paper = greatest(study, worths)
            self.assertTrue(shows_greatest(study, paper, worths) and is_greatest(study, paper, worths))
            for _ in range(15):
                other = bent_paper(rng, paper)
                wanted = is_greatest(study, other, worths)
                self.assertIs(shows_greatest(study, other, worths), wanted)
                counts[wanted] += 1
        self.assertTrue(min(counts.values()) > 100, counts)

    def test_errors_and_sizes(self):
        large = long_study(50)
        table = {f"q{at}": Ratio(1, 2 ** (50 - at)) for at in range(50)}
        ranks = {f"q{at}": 50 - at for at in range(50)}
        paper = Greatest(table["q0"], table, {state: 0 for state in large}, ranks)
        self.assertTrue(shows_greatest(large, paper))
        self.assertTrue(shows_greatest(study=large, value=paper, worths={"lit": 1, "dark": 0}))
        for value in [*ANY_VALUES, TURN]:
            self.refused(BadStudy, {"part": "study"}, shows_greatest, value, paper, value)
            self.refused(BadStudy, {"part": "study"}, shows_least, value, paper, value)
        for value in WRONG_WORTHS:
            self.refused(BadWorths, {"part": "worths"}, shows_greatest, QUARTER, None, value)
            self.refused(BadWorths, {"part": "worths"}, shows_least, QUARTER, None, value)


class LeastTest(Case):
    def test_plain_cases(self):
        table, corners = {"one": Ratio(1, 16), "two": Ratio(1, 4)}, {"one": 1, "two": 0}
        self.assertTrue(shows_least(QUARTER, Least(Ratio(1, 16), table, corners, {"one": 1, "two": 1})))
        for paper in (Least(Ratio(1, 16), table, corners, {"one": 1}), Least(Ratio(1, 16), table, corners, {}),
                      Least(Ratio(1, 16), table, {"one": 0, "two": 0}, {"one": 1, "two": 1}),
                      Least(0, {"one": 0, "two": 0}, corners, {"one": 1, "two": 1}),
                      Greatest(Ratio(1, 16), table, corners, {"one": 1, "two": 1})):
            self.assertIs(shows_least(QUARTER, paper), False)
        self.assertTrue(shows_least(LOOP, Trap((), {"a": 1, "b": 0})))
        self.assertIs(shows_least(LOOP, Trap((), {"a": 0, "b": 0})), False)
        self.assertIs(shows_least(QUARTER, Trap((), {"one": 0})), False)
        large = long_study(41)
        tables = {f"q{at}": Ratio(1, 2 ** (41 - at)) for at in range(41)}
        self.assertTrue(shows_least(large, Least(tables["q0"], tables, {state: 0 for state in large},
                                                 {state: 1 for state in large})))

    def test_drawn_studies(self):
        rng = rng_of(43)
        counts = {True: 0, False: 0}
        for _ in range(250):
            study = drawn_study(rng, rng.randint(1, 4), most=3)
            worths = drawn_worths(rng, study)
            paper = least(study, worths)
            self.assertTrue(shows_least(study, paper, worths))
            for _ in range(12):
                other = bent_paper(rng, paper)
                wanted = is_least(study, other, worths) if paper else is_trap(study, other)
                self.assertIs(shows_least(study, other, worths), wanted)
                counts[wanted] += 1
        self.assertTrue(min(counts.values()) > 100, counts)


if __name__ == "__main__":
    unittest.main()

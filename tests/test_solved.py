import itertools
import unittest

from peekproof.crowds import Crowd
from peekproof.errors import BadStudy, BadWorld, BadWorths, NoState, TooMany
from peekproof.greatest import Greatest, greatest, is_purse
from peekproof.least import Least, least
from peekproof.made import in_a_row, in_all, sooner
from peekproof.ratios import Ratio
from peekproof.steady import steady
from peekproof.studies import Study
from peekproof.sure import Trap, sure
from peekproof.watches import Watch
from tests.study_oracle import choices, is_right_greatest, is_right_least, mean, moves, number, steady_table, worths_of
from tests.support import ANY_VALUES, Case, drawn_study, rng_of

COIN = ("sale", "miss")
HALF = Ratio(1, 2)
TURN = Watch({"coin": COIN}, ["lit", "dark"], [("one", "coin", ("dark", "two")), ("two", "coin", ("lit", "dark"))])
QUARTER = Study(TURN, {"coin": Crowd.between(COIN, Ratio(1, 4), Ratio(3, 4))})
TRIAL = Crowd.between(("hit", "miss"), Ratio(1, 4), Ratio(3, 4))
WRONG_WORTHS = ([value for value in ANY_VALUES if value is not None]
                + [{"lit": 1}, {"lit": 1, "dark": -1}, {"lit": 1, "dark": True}, {"lit": 1, "dark": None},
                   {"lit": 1, "dark": 0, "one": 0}, {"lit": 1, "dim": 0}, {"lit": Ratio(-1, 9), "dark": 0},
                   [("lit", 1), ("dark", 0)], {"lit": "1", "dark": 0}])


def drawn_worths(rng, study):
    if not rng.randint(0, 2):
        return None
    return {end: rng.choice([0, 0, 1, 2, Ratio(rng.randint(0, 5), rng.randint(1, 5))]) for end in study.watch.ends}


def fractions(table):
    return {state: number(value) for state, value in dict(table).items()}


def long_study(many, ends=("lit", "dark")):
    lines = [(f"q{at}", "coin", (f"q{at + 1}" if at < many - 1 else "lit", "dark")) for at in range(many)]
    return Study(Watch({"coin": COIN}, ends, lines), {"coin": Crowd.just(COIN, [HALF, HALF])})


class ExampleTest(Case):
    def test_example(self):
        most, few = greatest(QUARTER), least(QUARTER)
        self.assertEqual(repr([most.number, most.table, most.corners, few.number, few.at("two")]),
                         "[9/16, (('one', 9/16), ('two', 3/4)), (('one', 0), ('two', 1)), 1/16, 1/4]")
        self.assertEqual(most.ranks, (("one", 2), ("two", 1)))


class SteadyTest(Case):
    def test_plain_cases(self):
        self.assertEqual(steady(QUARTER, {"two": 1, "one": 0}), {"one": Ratio(9, 16), "two": Ratio(3, 4)})
        self.assertEqual(list(steady(QUARTER, {"two": 1, "one": 0})), ["one", "two"])
        self.assertEqual(steady(QUARTER, {"one": 0, "two": 0}, {"lit": 0, "dark": 4}),
                         {"one": Ratio(13, 4), "two": 3})
        self.all_ratios(steady(QUARTER, {"one": 0, "two": 0}, {"lit": 1, "dark": 1}).values())

    def test_a_world_that_stays_gets_nothing(self):
        loose = Study(in_a_row(2), {"trial": Crowd.between(("hit", "miss"), 0, 1)})
        self.assertEqual(steady(loose, {"s0": 0, "s1": 1}), {"s0": 0, "s1": 1})
        self.assertEqual(steady(loose, {"s0": 1, "s1": 0}), {"s0": 0, "s1": 0})
        self.assertEqual(steady(loose, {"s0": 1, "s1": 1}, {"lit": 7}), {"s0": 7, "s1": 7})
        self.all_ratios(steady(loose, {"s0": 1, "s1": 0}).values())

    def test_drawn_studies(self):
        rng = rng_of(27)
        for _ in range(200):
            study = drawn_study(rng, rng.randint(1, 5), most=2)
            worths = drawn_worths(rng, study)
            corners = {state: rng.randrange(len(study.corners_of(state))) for state in study}
            found = steady(study, corners, worths)
            self.assertEqual(list(found), list(study.states))
            self.assertEqual(fractions(found), steady_table(study, corners, worths_of(study, worths)))

    def test_errors(self):
        for value in [*ANY_VALUES, TURN]:
            self.refused(BadStudy, {"part": "study"}, steady, value, value, value)
        for value in [*ANY_VALUES, {"one": 0}, {"one": 0, "two": 2}, {"one": 0, "two": -1}, {"one": 0, "two": True},
                      {"one": 0, "two": None}, {"one": 0, "two": Ratio(0)}, {"one": 0, "two": 0, "lit": 0},
                      {"one": 0, None: 0}, [("one", 0), ("two", 0)]]:
            self.refused(BadWorld, {"part": "corners"}, steady, QUARTER, value, 5)
        for value in WRONG_WORTHS:
            self.refused(BadWorths, {"part": "worths"}, steady, QUARTER, {"one": 0, "two": 0}, value)
        large = long_study(41)
        corners = {state: 0 for state in large}
        self.refused(BadWorld, {"part": "corners"}, steady, large, {}, 5)
        self.refused(BadWorths, {"part": "worths"}, steady, large, corners, 5)
        self.refused(TooMany, {"what": "states", "most": 40}, steady, large, corners)
        self.assertEqual(len(steady(long_study(40), {f"q{at}": 0 for at in range(40)})), 40)


class GreatestTest(Case):
    def test_drawn_studies(self):
        rng = rng_of(28)
        for _ in range(150):
            study = drawn_study(rng, rng.randint(1, 4), 3, most=2)
            worths = drawn_worths(rng, study)
            told = worths_of(study, worths)
            paper = greatest(study, worths)
            self.assertTrue(is_right_greatest(study, paper, worths))
            self.all_ratios([paper.number, *[value for _, value in paper.table]])
            self.assertEqual(greatest(study, worths), paper)
            table = fractions(paper.table)
            self.assertTrue(is_purse(study, dict(paper.table), worths))
            self.assertEqual(fractions(steady(study, dict(paper.corners), worths)), table)
            for corners in itertools.islice(choices(study), 100):
                self.assertTrue(all(value <= table[state] for state, value in steady_table(study, corners, told).items()))

    def test_states_that_come_about_alone(self):
        lines = [("a", "coin", ("b", "c")), ("b", "coin", ("lit", "a")), ("c", "coin", ("lit", "lit"))]
        watch = Watch({"coin": COIN}, ["dark", "lit"], lines)
        paper = greatest(Study(watch, {"coin": Crowd.just(COIN, [1, 0])}))
        self.assertEqual(paper, Greatest(1, {"a": 1, "b": 1}, {"a": 0, "b": 0}, {"a": 2, "b": 1}))
        self.refused(NoState, {"name": "c"}, paper.at, "c")

    def test_numbers_of_zero_have_no_rank(self):
        paper = greatest(Study(TURN, {"coin": Crowd.just(COIN, [1, 0])}))
        self.assertEqual(paper, Greatest(0, {"one": 0}, {"one": 0}, {}))
        paper = greatest(QUARTER, {"lit": 0, "dark": 0})
        self.assertEqual((paper.number, paper.ranks, paper.at("two")), (0, (), 0))
        self.all_ratios([paper.number, paper.at("two")])
        loop = Watch({"coin": COIN}, ["lit"], [("a", "coin", ("a", "a"))])
        self.assertEqual(greatest(Study(loop, {"coin": Crowd.just(COIN, [1, 0])})).number, 0)

    def test_a_kept_corner_leads_on_though_another_is_as_good(self):
        lines = [("a", "coin", ("b", "c")), ("b", "coin", ("a", "a")), ("c", "coin", ("lit", "lit"))]
        study = Study(Watch({"coin": COIN}, ["lit"], lines), {"coin": Crowd.all_sure(COIN)})
        paper = greatest(study)
        self.assertEqual((paper.number, dict(paper.corners)["a"], dict(paper.ranks)["c"]), (1, 1, 1))
        self.assertTrue(is_right_greatest(study, paper))

    def test_worths_of_integers_and_ratios(self):
        self.assertEqual(greatest(QUARTER, {"lit": 2, "dark": 0}).number, Ratio(9, 8))
        self.assertEqual(greatest(QUARTER, {"dark": HALF, "lit": Ratio(0)}).number, Ratio(15, 32))
        self.assertEqual(greatest(QUARTER, {"dark": 10 ** 12, "lit": 10 ** 12}).number, 10 ** 12)

    def test_errors(self):
        for value in [*ANY_VALUES, TURN]:
            self.refused(BadStudy, {"part": "study"}, greatest, value, value)
            self.refused(BadStudy, {"part": "study"}, least, value, value)
        for value in WRONG_WORTHS:
            self.refused(BadWorths, {"part": "worths"}, greatest, QUARTER, value)
            self.refused(BadWorths, {"part": "worths"}, least, QUARTER, value)
            self.refused(BadWorths, {"part": "worths"}, greatest, long_study(41), value)
            self.refused(BadWorths, {"part": "worths"}, least, long_study(41), value)
        for call in (greatest, least):
            self.refused(TooMany, {"what": "states", "most": 40}, call, long_study(41))
            self.assertEqual(len(call(long_study(40)).table), 40)
        loose = Study(sooner(30, 30), {"trial": Crowd.between(("hit", "miss"), 0, 1)})
        self.refused(TooMany, {"what": "states", "most": 40}, least, loose)
        lines = [(f"q{at}", "coin", (f"q{at + 1}" if at < 39 else "lit", "x")) for at in range(40)]
        spare = Watch({"coin": COIN}, ["lit"], [*lines, ("x", "coin", ("x", "x"))])
        self.assertEqual(greatest(Study(spare, {"coin": Crowd.just(COIN, [1, 0])})).number, 1)

    def test_at(self):
        for kind in (Greatest, Least):
            paper = kind(1, {"a": HALF, "b": 2}, {}, {})
            self.assertEqual((paper.at("a"), paper.at("b")), (HALF, 2))
            for value in [*ANY_VALUES, "c"]:
                self.refused(NoState, {"name": value}, paper.at, value)
            for table in [*[value for value in ANY_VALUES if value != {"x": 1}], ("ab", ("a",), ("a", 1, 2), 5)]:
                self.refused(NoState, {"name": "a"}, kind(1, table, table, table).at, "a")


class PurseTest(Case):
    def test_plain_cases(self):
        self.assertTrue(is_purse(QUARTER, {"one": Ratio(9, 16), "two": Ratio(3, 4)}))
        self.assertTrue(is_purse(QUARTER, {"two": 1, "one": 1}))
        self.assertTrue(is_purse(QUARTER, {"one": 7, "two": Ratio(3, 4)}))
        self.assertFalse(is_purse(QUARTER, {"one": Ratio(1, 2), "two": Ratio(3, 4)}))
        self.assertFalse(is_purse(QUARTER, {"one": 1, "two": Ratio(2, 3)}))
        self.assertTrue(is_purse(QUARTER, {"one": 0, "two": 0}, {"lit": 0, "dark": 0}))
        self.assertFalse(is_purse(QUARTER, {"one": 0, "two": 0}, {"lit": 0, "dark": 1}))
        for value in [*ANY_VALUES, {"one": 1}, {"one": 1, "two": -1}, {"one": 1, "two": True}, {"one": 1, "two": None},
                      {"one": 1, "two": 1, "lit": 1}, {"one": 1, "lit": 1}, (("one", 1), ("two", 1)),
                      {"one": 1, "two": [1]}, {"one": 2, "two": 1.5}]:
            self.assertIs(is_purse(QUARTER, value), False)

    def test_drawn_tables(self):
        rng = rng_of(29)
        right = 0
        for _ in range(300):
            study = drawn_study(rng, rng.randint(1, 3), 2, most=2)
            worths = drawn_worths(rng, study)
            told = worths_of(study, worths)
            top = fractions(greatest(study, worths).table)
            table = {state: Ratio(value.numerator, value.denominator) + rng.choice([0, 0, 0, Ratio(1, 3), Ratio(-1, 4)])
                     for state, value in top.items()}
            numbers = fractions(table)
            wanted = all(value >= 0 for value in numbers.values()) and all(
                mean(move, numbers, told) <= numbers[state] for state in study for move in moves(study, state))
            right += wanted
            self.assertIs(is_purse(study, table, worths), wanted)
        self.assertTrue(50 < right < 250)

    def test_errors(self):
        for value in [*ANY_VALUES, TURN]:
            self.refused(BadStudy, {"part": "study"}, is_purse, value, value, value)
        for value in WRONG_WORTHS:
            self.refused(BadWorths, {"part": "worths"}, is_purse, QUARTER, {"one": 1, "two": 1}, value)
        large = long_study(50)
        self.assertTrue(is_purse(large, {state: 1 for state in large}))


class LeastTest(Case):
    def test_drawn_studies(self):
        rng = rng_of(30)
        found = 0
        for _ in range(300):
            study = drawn_study(rng, rng.randint(1, 4), 3, most=3)
            worths = drawn_worths(rng, study)
            told = worths_of(study, worths)
            paper = least(study, worths)
            if not paper:
                self.assertIsInstance(paper, Trap)
                self.assertEqual(paper, sure(study))
                continue
            found += 1
            self.assertTrue(is_right_least(study, paper, worths))
            self.assertEqual(paper.ranks, sure(study).ranks)
            self.all_ratios([paper.number, *[value for _, value in paper.table]])
            table = fractions(paper.table)
            self.assertEqual(fractions(steady(study, dict(paper.corners), worths)), table)
            for corners in itertools.islice(choices(study), 100):
                self.assertTrue(all(value >= table[state] for state, value in steady_table(study, corners, told).items()))
        self.assertGreater(found, 80)

    def test_greatest_and_least_of_one_world_are_equal(self):
        study = Study(in_all(3), {"trial": Crowd.just(("hit", "miss"), [Ratio(1, 3), Ratio(2, 3)])})
        self.assertEqual(greatest(study).table, least(study).table)
        study = Study(sooner(2, 1), {"trial": Crowd.just(("hit", "miss"), [HALF, HALF])})
        self.assertEqual((greatest(study).number, least(study).number), (Ratio(1, 3), Ratio(1, 3)))

    def test_a_study_that_is_not_sure(self):
        study = Study(sooner(2, 2), {"trial": Crowd(("hit", "miss"), [[0, 1], [1, 0], [HALF, HALF]])})
        self.assertEqual(least(study), Trap((), {"s0": 0, "s1": 0, "s2": 1}))
        self.assertEqual(greatest(study).number, 1)


if __name__ == "__main__":
    unittest.main()

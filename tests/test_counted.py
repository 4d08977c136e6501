import unittest

from peekproof.check_counted import is_heights, shows_dearest, shows_soonest
from peekproof.costs import Costs
from peekproof.crowds import Crowd
from peekproof.dearest import Dearest, Endless, dearest, dearest_of, spent
from peekproof.errors import BadCosts, BadNumbers, BadStudy, BadWorld, NoEnd, NoState, TooMany
from peekproof.greatest import greatest
from peekproof.made import in_a_row
from peekproof.papers import Denial, Paper
from peekproof.ratios import Ratio, added
from peekproof.soonest import Seldom, Soonest, soonest
from peekproof.studies import Study
from peekproof.watches import Watch
from tests.cost_oracle import dearest_table, soonest_table, spent_in
from tests.paper_oracle import bent_paper, is_dearest, is_endless, is_seldom, is_soonest
from tests.study_oracle import choices, number
from tests.support import ANY_VALUES, Case, drawn_study, rng_of
from tests.test_costs import TWICE, drawn_costs
from tests.test_solved import QUARTER, TURN, fractions, long_study

HALF = Ratio(1, 2)
COIN = {"coin": ("hit", "miss")}
STUDY = Study(TWICE, {"coin": Crowd.read("hit 1/4 miss 3/4 / hit 1/2 miss 1/2")})
LOOSE = Study(TWICE, {"coin": Crowd.read("hit 0 miss 1 / hit 1/2 miss 1/2")})
TRIALS = Costs.each_trial(TWICE)
ONCE = Watch({"coin": ["hit", "miss"]}, ["lit", "dark"], [("start", "coin", ("lit", "dark"))])


def priced(rng, states=4):
    study = drawn_study(rng, rng.randint(1, states), 2 + rng.randrange(2), most=1 + rng.randrange(2))
    return study, drawn_costs(rng, study.watch, rng.choice([(0, 0, 0, 1), (0, 1, 2, HALF), (0, 0, 0, 0, 0, 3)]))


class ExampleTest(Case):
    def test_dearest(self):
        self.assertEqual([str(dearest(STUDY, TRIALS).number), str(dearest(STUDY, TRIALS).at("one")),
                          str(dearest_of((STUDY, TRIALS), (STUDY, Costs.of(TWICE, {"miss": 1}))))], ["20", "16", "35"])
        self.assertEqual(str(spent(STUDY, TRIALS, {"start": 0, "one": 0}, 3)), "47/16")
        self.assertEqual([dearest(LOOSE, TRIALS).word, str(dearest(LOOSE, Costs(TWICE, {"one": {"hit": 1}})).number),
                          dearest(LOOSE, Costs.of(TWICE, {"hit": 1})).word], ["endless", "1", "endless"])

    def test_soonest(self):
        self.assertEqual([str(soonest(STUDY).number), str(soonest(STUDY).at("one")), bool(soonest(LOOSE))],
                         ["6", "4", True])
        study = Study(ONCE, {"coin": Crowd.read("hit 1/4 miss 3/4 / hit 1/2 miss 1/2")})
        self.assertTrue(soonest(study) == Seldom({"start": HALF}))

    def test_checks(self):
        self.assertEqual([is_heights(STUDY, TRIALS, {"start": 24, "one": 19}),
                          is_heights(STUDY, TRIALS, {"start": 20, "one": 17})], [True, False])
        self.assertEqual([shows_dearest(LOOSE, TRIALS, Endless((), {"start": 0}, {"start": 1})),
                          shows_dearest(LOOSE, Costs.of(TWICE, {"hit": 1}),
                                        Endless((), {"start": 1, "one": 0}, {"start": 1, "one": 2}))], [True, True])


class DearestTest(Case):
    def test_rings(self):
        lines = [("a", "coin", ("b", "lit")), ("b", "coin", ("a", "a"))]
        study = Study(Watch(COIN, ["lit"], lines), {"coin": Crowd.between(("hit", "miss"), 0, 1)})
        self.assertEqual(dearest(study, Costs(study.watch, {"a": {"miss": 5}})),
                         Dearest(5, {"a": 5, "b": 5}, {"a": 0, "b": 0}, {"a": 1, "b": 2}))
        endless = dearest(study, Costs(study.watch, {"b": {"miss": Ratio(1, 1000)}}))
        self.assertTrue(shows_dearest(study, Costs(study.watch, {"b": {"miss": 1}}), endless))
        self.assertEqual((endless.word, endless.row, [key for key, _ in endless.corners]), ("endless", (), ["a", "b"]))
        self.assertEqual(dearest(study, Costs(study.watch, {})).number, 0)

    def test_a_ring_that_costs_but_does_not_come_about(self):
        lines = [("a", "coin", ("b", "lit")), ("b", "coin", ("b", "b"))]
        study = Study(Watch(COIN, ["lit"], lines), {"coin": Crowd.just(("hit", "miss"), [0, 1])})
        self.assertEqual(dearest(study, Costs.each_trial(study.watch)), Dearest(1, {"a": 1}, {"a": 0}, {"a": 1}))

    def test_a_drain_later_on(self):
        lines = [("a", "coin", ("lit", "b")), ("b", "coin", ("lit", "c")), ("c", "coin", ("c", "lit"))]
        study = Study(Watch(COIN, ["lit"], lines), {"coin": Crowd.between(("hit", "miss"), HALF, 1)})
        self.assertEqual(dearest(study, Costs(study.watch, {"c": {"hit": 1}})),
                         Endless(("miss", "miss"), {"c": 1}, {"c": 1}))
        self.assertEqual(dearest(study, Costs(study.watch, {"c": {"miss": 1}})).number, Ratio(1, 4))

    def test_drawn_studies(self):
        rng = rng_of(51)
        endless = 0
        for _ in range(250):
            study, costs = priced(rng)
            paper, table = dearest(study, costs), dearest_table(study, costs)
            self.assertEqual(dearest(study, costs), paper)
            self.assertTrue(shows_dearest(study, costs, paper))
            if paper:
                self.assertIsInstance(paper, Dearest)
                self.assertEqual(fractions(paper.heights), table)
                self.assertTrue(is_dearest(study, costs, paper) and is_heights(study, costs, dict(paper.heights)))
                self.all_ratios([paper.number, *dict(paper.heights).values()])
                for state, height in paper.heights:
                    self.assertEqual(paper.at(state), height)
            else:
                endless += 1
                self.assertIn(None, table.values())
                self.assertTrue(is_endless(study, costs, paper))
        self.assertTrue(15 < endless < 200, endless)

    def test_errors(self):
        other = Costs.each_trial(TURN)
        for call in (dearest, is_heights, shows_dearest, spent):
            rest = {dearest: (), is_heights: (5,), shows_dearest: (5,), spent: (5, 5)}[call]
            for value in [*ANY_VALUES, TWICE, TRIALS]:
                self.refused(BadStudy, {"part": "study"}, call, value, value, *rest)
            for value in [*ANY_VALUES, TWICE, STUDY]:
                self.refused(BadCosts, {"part": "costs"}, call, STUDY, value, *rest)
            self.refused(BadCosts, {"part": "watch"}, call, STUDY, other, *rest)
        large = long_study(41)
        self.refused(TooMany, {"what": "states", "most": 40}, dearest, large, Costs.each_trial(large.watch))
        self.refused(BadCosts, {"part": "watch"}, dearest, large, other)
        fair = long_study(40)
        self.assertEqual(dearest(fair, Costs.each_trial(fair.watch)).number, Ratio(2 ** 40 - 1, 2 ** 39))

    def test_at(self):
        for kind in (Dearest, Soonest):
            paper = kind(1, {"a": HALF, "b": 2}, {}, {})
            self.assertEqual((paper.at("a"), paper.at("b")), (HALF, 2))
            for value in [*ANY_VALUES, "c"]:
                self.refused(NoState, {"name": value}, paper.at, value)

    def test_several_studies(self):
        self.assertEqual(dearest_of(), 0)
        self.all_ratios([dearest_of(), dearest_of([STUDY, TRIALS])])
        self.assertIs(dearest_of((STUDY, TRIALS), (LOOSE, TRIALS)), None)
        for value in [*ANY_VALUES, (STUDY,), (STUDY, TRIALS, 1), {STUDY.watch.first: 1}]:
            self.refused(BadCosts, {"part": "pairs"}, dearest_of, (STUDY, TRIALS), value, (None, None))
            self.refused(BadCosts, {"part": "pairs"}, dearest_of, (LOOSE, TRIALS), value)
        self.refused(BadStudy, {"part": "study"}, dearest_of, (LOOSE, TRIALS), (TRIALS, STUDY), 5)
        self.refused(BadCosts, {"part": "costs"}, dearest_of, (LOOSE, TRIALS), [STUDY, STUDY])
        self.refused(BadCosts, {"part": "watch"}, dearest_of, (LOOSE, TRIALS), (STUDY, Costs.each_trial(TURN)))
        large = long_study(41)
        self.refused(TooMany, {"what": "states", "most": 40}, dearest_of, (LOOSE, TRIALS),
                     (large, Costs.each_trial(large.watch)), 7)
        rng = rng_of(52)
        for _ in range(40):
            pairs = [priced(rng, 2) for _ in range(rng.randint(1, 3))]
            papers = [dearest(study, costs) for study, costs in pairs]
            self.assertEqual(dearest_of(*pairs), added([paper.number for paper in papers]) if all(papers) else None)


class SpentTest(Case):
    def test_drawn_studies(self):
        rng = rng_of(53)
        for _ in range(120):
            study, costs = priced(rng)
            picks = rng.choice(list(choices(study)))
            for trials in (0, 1, 2, rng.randint(3, 9)):
                found = spent(study, costs, picks, trials)
                self.assertIsInstance(found, Ratio)
                self.assertEqual(number(found), spent_in(study, costs, picks, trials))

    def test_most_trials(self):
        loop = Study(Watch(COIN, ["lit"], [("a", "coin", ("a", "a"))]), {"coin": Crowd.just(("hit", "miss"), [HALF, HALF])})
        costs = Costs(loop.watch, {"a": {"hit": 1}})
        self.assertEqual([spent(loop, costs, {"a": 0}, trials) for trials in (199, 200)], [Ratio(199, 2), 100])
        self.refused(TooMany, {"what": "trials", "most": 200}, spent, loop, costs, {"a": 0}, 201)
        self.assertEqual(spent(study=loop, costs=costs, corners={"a": 0}, trials=4), 2)

    def test_errors_in_their_order(self):
        for value in [*ANY_VALUES, {"start": 0}, {"start": 0, "one": 2}, {"start": 0, "one": True},
                      {"start": 0, "one": 0, "lit": 0}]:
            self.refused(BadWorld, {"part": "corners"}, spent, STUDY, TRIALS, value, -1)
        for value in [value for value in ANY_VALUES if type(value) is not int] + [-1]:
            self.refused(BadNumbers, {"part": "trials"}, spent, STUDY, TRIALS, {"start": 0, "one": 0}, value)
        self.refused(BadWorld, {"part": "corners"}, spent, STUDY, TRIALS, {}, 201)
        self.refused(BadCosts, {"part": "watch"}, spent, STUDY, Costs.each_trial(TURN), {}, 201)

    def test_studies_of_any_size(self):
        large = long_study(200)
        trials = Costs.each_trial(large.watch)
        self.assertEqual(spent(large, trials, {state: 0 for state in large}, 200), Ratio(2 ** 200 - 1, 2 ** 199))


class SoonestTest(Case):
    def test_drawn_studies(self):
        rng = rng_of(54)
        surely = 0
        for _ in range(250):
            study = drawn_study(rng, rng.randint(1, 4), 3, most=1)
            for end in study.watch.ends:
                paper, table = soonest(study, end), soonest_table(study, end)
                self.assertEqual(soonest(study, end=end), paper)
                worths = {other: int(other == end) for other in study.watch.ends}
                self.assertEqual(paper.purse, greatest(study, worths).table)
                self.assertTrue(shows_soonest(study, paper, end))
                if not paper:
                    self.assertTrue(is_seldom(study, paper, end))
                    self.assertIsNone(table[study.watch.first])
                    continue
                surely += 1
                self.assertTrue(is_soonest(study, paper, end))
                self.assertEqual(fractions(paper.means), {state: wait for state, wait in table.items() if wait is not None})
                self.all_ratios([paper.number, *dict(paper.means).values(), *dict(paper.purse).values()])
        self.assertTrue(surely > 50, surely)

    def test_only_corners_that_stay_count(self):
        lines = [("a", "coin", ("lit", "b")), ("b", "coin", ("dark", "lit")), ("c", "coin", ("c", "c"))]
        watch = Watch(COIN, ["lit", "dark"], lines)
        crowd = Crowd(("hit", "miss"), [[Ratio(9, 10), Ratio(1, 10)], [0, 1]])
        self.assertEqual(soonest(Study(watch, {"coin": crowd})),
                         Soonest(Ratio(11, 10), {"a": Ratio(11, 10), "b": 1}, {"a": 0, "b": 1}, {"a": 1, "b": 1}))
        self.assertEqual(soonest(Study(watch, {"coin": crowd}), "dark"),
                         Seldom({"a": Ratio(9, 10), "b": Ratio(9, 10)}))

    def test_waiting_beats_a_gamble(self):
        lines = [("a", "coin", ("a", "b")), ("b", "coin", ("dark", "lit"))]
        study = Study(Watch(COIN, ["lit", "dark"], lines), {"coin": Crowd.between(("hit", "miss"), 0, Ratio(3, 4))})
        self.assertEqual(soonest(study).means, (("a", 2), ("b", 1)))

    def test_ends_that_are_not_come_to(self):
        study = Study(Watch(COIN, ["dim", "lit"], [("a", "coin", ("dim", "a"))]), {"coin": Crowd.between(("hit", "miss"), 0, 1)})
        self.assertEqual(soonest(study), Seldom({"a": 0}))
        self.assertEqual(soonest(study, "dim").number, 1)

    def test_errors(self):
        for value in [*ANY_VALUES, TURN]:
            self.refused(BadStudy, {"part": "study"}, soonest, value, value)
            self.refused(BadStudy, {"part": "study"}, shows_soonest, value, value, value)
        for value in [*ANY_VALUES, "one", "dim"]:
            self.refused(NoEnd, {"name": value}, soonest, QUARTER, value)
            self.refused(NoEnd, {"name": value}, shows_soonest, QUARTER, None, value)
        self.refused(NoEnd, {"name": "x"}, soonest, long_study(41), "x")
        self.refused(TooMany, {"what": "states", "most": 40}, soonest, long_study(41))
        self.assertEqual(len(soonest(long_study(40), "dark").purse), 40)
        dim = Study(Watch(COIN, ["dim"], [("a", "coin", ("dim", "a"))]), {"coin": Crowd.between(("hit", "miss"), 0, 1)})
        self.refused(NoEnd, {"name": "lit"}, soonest, dim)


class CheckTest(Case):
    def test_heights(self):
        for value in [*ANY_VALUES, {"start": 24}, {"start": 24, "one": True}, {"start": 24, "one": 19, "lit": 0},
                      {"start": 24, "lit": 19}, [("start", 24), ("one", 19)], (("one", 19), ("start", 24)),
                      {"start": Ratio(24), "one": None}, {"start": -1, "one": 19}]:
            self.assertIs(is_heights(STUDY, TRIALS, value), False)
        self.assertTrue(is_heights(STUDY, TRIALS, {"one": Ratio(16), "start": 20}))
        self.assertIs(is_heights(STUDY, TRIALS, {"one": Ratio(159, 10), "start": 20}), False)
        self.assertTrue(is_heights(STUDY, Costs(TWICE, {}), {"one": 0, "start": 0}))
        self.assertIs(is_heights(STUDY, Costs(TWICE, {}), {"one": -1, "start": -1}), False)

    def test_dearest_papers(self):
        right = ({"start": 20, "one": 16}, {"start": 0, "one": 0}, {"start": 2, "one": 1})
        self.assertTrue(shows_dearest(STUDY, TRIALS, Dearest(20, *right)))
        for paper in (Dearest(True, *right), Dearest(21, *right), Paper("dearest", 20, *right), Soonest(20, *right),
                      Dearest(20, right[0], {"start": 1, "one": 0}, right[2]), Dearest(20, *right[:2], {"start": 1, "one": 2}),
                      Dearest(24, {"start": 24, "one": 19}, *right[1:]), Denial("endless", (), {"start": 0}, {"start": 1})):
            self.assertIs(shows_dearest(STUDY, TRIALS, paper), False)
        loop = Study(Watch(COIN, ["lit"], [("a", "coin", ("a", "a"))]), {"coin": Crowd.just(("hit", "miss"), [1, 0])})
        self.assertIs(shows_dearest(loop, Costs(loop.watch, {}), Dearest(7, {"a": 7}, {"a": 0}, {"a": 1})), False)
        self.assertTrue(shows_dearest(loop, Costs(loop.watch, {"a": {"miss": 1}}), Dearest(0, {"a": 0}, {"a": 0}, {})))

    def test_drains(self):
        hits = Costs.of(TWICE, {"hit": 1})
        for row, corners, ranks in (((), {"start": 1, "one": 0}, {"start": 1, "one": 9}),
                                    (("miss", "hit"), {"start": 1, "one": 0}, {"start": 1, "one": 2})):
            self.assertTrue(shows_dearest(LOOSE, hits, Endless(row, corners, ranks)))
        for row, corners, ranks in (((), {"start": 0}, {"start": 1}), ((), {}, {}), ((), {"start": 1}, {"start": 1}),
                                    ((), {"start": 1, "one": 1}, {"start": 1, "one": 2}),
                                    ((), {"start": 1, "one": 0}, {"start": 2, "one": 1}),
                                    ((), {"start": 1, "one": 0}, {"start": 2, "one": 3}),
                                    ((), {"start": 1, "one": 0}, {"start": 1, "one": 1}),
                                    ((), {"start": 1, "one": 0}, {"start": True, "one": 2}),
                                    ((), {"start": 1, "one": 0}, {"start": 1}), (("hit", "hit"), {"start": 1, "one": 0}, {"start": 1, "one": 2}),
                                    (None, {"start": 1, "one": 0}, {"start": 1, "one": 2})):
            self.assertIs(shows_dearest(LOOSE, hits, Endless(row, corners, ranks)), False)

    def test_any_values(self):
        right = dearest(STUDY, TRIALS)
        waits = soonest(STUDY)
        for value in ANY_VALUES:
            self.assertIs(shows_dearest(STUDY, TRIALS, value), False)
            self.assertIs(shows_soonest(STUDY, value), False)
            self.assertIs(shows_soonest(STUDY, Seldom(value)), False)
            self.assertIs(shows_dearest(STUDY, TRIALS, Endless(value, value, value)), False)
            for at in range(4):
                parts = list(right.parts)
                parts[at] = value
                self.assertIs(shows_dearest(STUDY, TRIALS, Dearest(*parts)), False)
                parts = list(waits.parts)
                parts[at] = value
                self.assertIs(shows_soonest(STUDY, Soonest(*parts)), False)

    def test_bent_papers_of_costs(self):
        rng = rng_of(55)
        counts = {(kind, shown): 0 for kind in (Dearest, Endless) for shown in (True, False)}
        for _ in range(600):
            study, costs = priced(rng)
            paper = dearest(study, costs)
            for _ in range(4 if paper else 20):
                other = bent_paper(rng, paper)
                wanted = is_dearest(study, costs, other) if paper else is_endless(study, costs, other)
                self.assertIs(shows_dearest(study, costs, other), wanted)
                counts[type(paper), wanted] += 1
        self.assertTrue(min(counts.values()) > 20, counts)

    def test_bent_papers_of_waits(self):
        rng = rng_of(56)
        counts = {(kind, shown): 0 for kind in (Soonest, Seldom) for shown in (True, False)}
        for _ in range(300):
            study = drawn_study(rng, rng.randint(1, 4), 3, most=1)
            paper = soonest(study, "dark")
            for _ in range(10):
                other = bent_paper(rng, paper)
                wanted = (is_soonest if paper else is_seldom)(study, other, "dark")
                self.assertIs(shows_soonest(study, other, "dark"), wanted)
                counts[type(paper), wanted] += 1
        self.assertTrue(min(counts.values()) > 20, counts)

    def test_a_greater_purse_shows_it_too(self):
        lines = [("a", "coin", ("lit", "b")), ("b", "coin", ("b", "dark"))]
        study = Study(Watch(COIN, ["lit", "dark"], lines), {"coin": Crowd.between(("hit", "miss"), HALF, 1)})
        self.assertTrue(shows_soonest(study, Soonest(1, {"a": 1}, {"a": 1}, {"a": 1, "b": Ratio(2, 3)})))
        self.assertIs(shows_soonest(study, Soonest(1, {"a": 1}, {"a": 1}, {"a": 1, "b": 1})), False)
        self.assertIs(shows_soonest(study, Soonest(1, {"a": 1, "b": 1}, {"a": 1, "b": 1}, {"a": 1, "b": 1})), False)
        self.assertIs(shows_soonest(study, Seldom({"a": Ratio(9, 10), "b": 0})), False)
        self.assertIs(shows_soonest(study, Soonest(1, {"a": 1}, {"a": 1}, {"a": 1, "b": 2})), False)
        half = Study(ONCE, {"coin": Crowd.between(("hit", "miss"), HALF, HALF)})
        self.assertTrue(shows_soonest(half, Seldom({"start": Ratio(2, 3)})))
        self.assertIs(shows_soonest(half, Seldom({"start": 1})), False)

    def test_studies_of_any_size(self):
        large = long_study(50)
        trials = Costs.each_trial(large.watch)
        heights = {f"q{at}": Ratio(2 ** (50 - at) - 1, 2 ** (49 - at)) for at in range(50)}
        self.assertTrue(is_heights(large, trials, heights))
        self.assertTrue(shows_dearest(large, trials, Dearest(heights["q0"], heights, {state: 0 for state in large},
                                                             {state: 1 for state in large})))
        self.assertTrue(shows_soonest(large, Seldom({f"q{at}": Ratio(1, 2 ** (50 - at)) for at in range(50)})))


if __name__ == "__main__":
    unittest.main()

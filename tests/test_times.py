"""The largest studies and crowds for which a short time is promised, so that a slow answer is seen."""

import time
import unittest

from peekproof.allowed import covered, leaned
from peekproof.bets import Bet, bet_of, fault, together
from peekproof.boards import AtLeast, Board, Named, Weighing
from peekproof.check_bets import shows_ahead, shows_capital, shows_lead, shows_within
from peekproof.check_boards import shows_tied, shows_wrongest
from peekproof.check_counted import is_heights, shows_dearest, shows_soonest
from peekproof.check_shapes import shows_shape
from peekproof.check_solved import shows_greatest, shows_least, shows_sure
from peekproof.costs import Costs
from peekproof.crowds import Crowd
from peekproof.dearest import dearest, spent
from peekproof.errors import TooMany
from peekproof.forms import pull, wrongest
from peekproof.greatest import greatest, is_purse
from peekproof.ladders import Ladder, first_fit
from peekproof.late import Late
from peekproof.leads import ahead, lead
from peekproof.least import least
from peekproof.logs import Log, row_study
from peekproof.lost import Lost
from peekproof.made import in_a_row
from peekproof.misread import Misread
from peekproof.nests import flattened, nested
from peekproof.one_row import on_one
from peekproof.ratios import Ratio
from peekproof.shapes import shape_of
from peekproof.soonest import soonest
from peekproof.steady import steady
from peekproof.studies import Study
from peekproof.sure import sure
from peekproof.tables import Table
from peekproof.ties import tied
from peekproof.twice import Doubled
from peekproof.walks import least_capital, purse_of
from peekproof.watches import Watch
from peekproof.within import within
from tests.support import rng_of

MOST_SECONDS = 5
HALF = Ratio(1, 2)


def parts_of_one(rng, many, digits):
    """Chances of many different bottoms, with at most so many digits above and below, that add up to 1."""
    pairs = many // 2
    chances = []
    for _ in range(pairs):
        bottom = pairs * rng.randint(2, (10 ** digits - 1) // pairs)
        top = rng.randint(1, bottom // pairs - 1)
        chances += [Ratio(top, bottom), Ratio(bottom // pairs - top, bottom)]
    return chances + [Ratio(0)] * (many - len(chances))


def ring_places(states, signs, rng):
    """Round the ring, back, on or anywhere in it; an end at its two gates alone."""
    lines = []
    for at in range(len(states)):
        places = [states[(at + 1) % len(states)], states[at - 1]]
        lines.append(places + [rng.choice(states) for _ in range(signs - 2)])
    lines[0][1] = "dark"
    lines[-1][0] = "lit"
    return lines


def any_places(states, signs, rng):
    return [[rng.choice([*states, "lit", "dark"]) for _ in range(signs)] for _ in states]


def three_places(states, signs, rng):
    return [[rng.choice([*states, "lit", "dark", "dim"]) for _ in range(signs)] for _ in states]


def large_study(rng, many, signs, corners, digits, places):
    names = [f"x{at}" for at in range(signs)]
    states = [f"q{at}" for at in range(many)]
    lines = [(state, f"a{at}", line) for at, (state, line) in enumerate(zip(states, places(states, signs, rng)))]
    ends = ["lit", "dark"] + ["dim"] * any("dim" in line for _, _, line in lines)
    watch = Watch({f"a{at}": names for at in range(many)}, ends, lines)
    return Study(watch, {arm: Crowd(names, [parts_of_one(rng, signs, digits) for _ in range(corners)])
                         for arm, _ in watch.arms})


class TimesTest(unittest.TestCase):
    def within(self, call, *arguments):
        start = time.monotonic()
        found = call(*arguments)
        self.assertLess(time.monotonic() - start, MOST_SECONDS)
        return found

    def test_largest_studies(self):
        rng = rng_of(31)
        worths = {"lit": 10 ** 13 - 1, "dark": Ratio(10 ** 12 + 1, 10 ** 13 - 1)}
        for many, digits in ((24, 6), (40, 2)):
            for places in (ring_places, any_places):
                for signs, corners in ((2, 8), (4, 24), (12, 24), (12, 96)):
                    study = large_study(rng, many, signs, corners, digits, places)
                    paper = self.within(greatest, study, worths)
                    self.assertTrue(self.within(is_purse, study, dict(paper.table), worths))
                    self.assertEqual(self.within(steady, study, dict(paper.corners), worths), dict(paper.table))
                    few = self.within(least, study, worths)
                    self.assertTrue(few.number.compared(paper.number) <= 0 if few else few.word == "trap")
                    self.assertTrue(self.within(shows_greatest, study, paper, worths))
                    self.assertTrue(self.within(shows_least, study, few, worths))
                    self.assertTrue(self.within(shows_sure, study, sure(study)))

    def test_largest_costs(self):
        rng = rng_of(33)
        for many, digits in ((24, 6), (40, 2)):
            for places in (ring_places, any_places):
                for signs, corners in ((2, 8), (12, 96)):
                    study = large_study(rng, many, signs, corners, digits, places)
                    costs = Costs(study.watch, {state: {sign: Ratio(rng.randint(1, 10 ** 13), rng.randint(1, 10 ** 13))
                                                        for sign in study.watch.signs_of(state)} for state in study})
                    paper = self.within(dearest, study, costs)
                    self.assertTrue(self.within(shows_dearest, study, costs, paper))
                    if paper:
                        self.assertTrue(self.within(is_heights, study, costs, dict(paper.heights)))
                    if (signs, places) == (12, any_places) or digits == 2:
                        self.within(spent, study, costs, {state: rng.randrange(corners) for state in study}, 200)
                    waits = self.within(soonest, study)
                    self.assertTrue(self.within(shows_soonest, study, waits))

    def test_long_waits(self):
        names = ("on", "back")
        for many, low in ((40, Ratio(1, 99)), (24, Ratio(1, 999999))):
            lines = [(f"q{at}", "coin", (f"q{at + 1}" if at < many - 1 else "lit", f"q{max(at - 1, 0)}")) for at in range(many)]
            watch = Watch({"coin": names}, ["lit"], lines)
            for crowd in (Crowd.between(names, low, Ratio(98, 99)), Crowd.between(names, 0, Ratio(98, 99))):
                study, costs = Study(watch, {"coin": crowd}), Costs.each_trial(watch)
                waits, most = self.within(soonest, study), self.within(dearest, study, costs)
                self.assertTrue(self.within(shows_soonest, study, waits) and self.within(shows_dearest, study, costs, most))
        study = Study(Watch({f"a{at}": names for at in range(40)}, ["lit"],
                            [(f"q{at}", f"a{at}", (f"q{at + 1}" if at < 39 else "lit", "q0")) for at in range(40)]),
                      {f"a{at}": Crowd.between(names, Ratio(rng, 99), Ratio(97, 98)) for at, rng in enumerate(range(1, 41))})
        self.assertTrue(self.within(shows_soonest, study, self.within(soonest, study)))
        self.assertTrue(self.within(shows_dearest, study, Costs.each_trial(study.watch),
                                    self.within(dearest, study, Costs.each_trial(study.watch))))

    def test_largest_shapes(self):
        rng = rng_of(34)
        for signs, corners, digits in ((4, 2, 6), (12, 2, 6), (12, 24, 6), (12, 24, 2), (4, 1, 6)):
            study = large_study(rng, 16, signs, corners, digits, three_places)
            outer = Study(Watch({"x": ("dim", "lit", "dark")}, ["lit"], [("s", "x", ("s", "s", "lit"))]),
                          {"x": Crowd.all_sure(("dim", "lit", "dark"))})
            self.within(flattened, outer, {"x": study})
            try:
                shape = self.within(shape_of, study)
                self.assertTrue(self.within(shows_shape, study, shape))
                self.assertEqual(self.within(nested, outer, {"x": study}).crowds[0][1].corners[0][0], shape.corners[0][2])
            except TooMany as error:
                self.assertEqual(error.what, "corners")
        # All corners of a shape with just as many as may be: two coins of each kind tell where the end is drawn.
        lines = [(f"q{at}", f"a{at}", (f"q{at + 1}" if at < 11 else "dark", ("lit", "dark", "dim")[at - at // 3 * 3]))
                 for at in range(12)]
        study = Study(Watch({arm: ("on", "off") for _, arm, _ in lines}, ["lit", "dark", "dim"], lines),
                      {arm: Crowd.between(("on", "off"), Ratio(at + 700000, 999983), Ratio(at + 900000, 999979))
                       for at, (_, arm, _) in enumerate(lines)})
        shape = self.within(shape_of, study)
        self.assertGreater(len(shape), 3)
        self.assertTrue(self.within(shows_shape, study, shape))

    def test_long_ways_and_rings_with_sure_corners(self):
        names = ("on", "back")
        for many in (24, 40):
            states = [f"q{at}" for at in range(many)]
            lines = [(state, "coin", (states[at + 1] if at < many - 1 else "lit", states[max(at - 1, 0)]))
                     for at, state in enumerate(states)]
            watch = Watch({"coin": names}, ["lit"], lines)
            study = Study(watch, {"coin": Crowd.between(names, Ratio(1, 99), Ratio(98, 99))})
            self.assertEqual(self.within(greatest, study).number, 1)
            self.assertEqual(self.within(least, study).number, 1)
            loose = Study(watch, {"coin": Crowd.between(names, 0, 1)})
            self.assertEqual(self.within(greatest, loose).number, 1)
            self.assertEqual(self.within(least, loose).word, "trap")

    def test_largest_boards(self):
        rng = rng_of(35)
        names = [Named(f"n{at}") for at in range(60)]
        ratios = {name.name: Ratio(rng.randint(1, 10 ** 13), 10 ** 13 + rng.randint(1, 10 ** 6)) for name in names}
        weights = [rng.randint(1, 5) for _ in names]
        weighing = Weighing(sum(weights) // 2, *zip(names, weights))
        tens = [Weighing(25, *[(name, rng.randint(1, 9)) for name in names[at:at + 10]]) for at in range(0, 60, 10)]
        deep = names[0]
        for at in range(1, 12):
            deep = AtLeast(3, deep, *names[5 * at:5 * at + 5])
        for board in (AtLeast(30, *names), weighing, AtLeast(3, *tens), Weighing(17, *zip(tens, weights)), deep):
            self.within(board, ratios)
            self.within(pull, board, ratios, board.names[-1])
            self.assertEqual(self.within(lambda: ~(~board)), board)
            self.assertEqual(self.within(Board.read, str(board)), board)
            self.within(lambda: board.rest([name for name in board.names[::3]], [name for name in board.names[1::3]]))
            with self.assertRaises(TooMany):
                self.within(lambda: list(board.least_sets()))
            if board is not weighing:
                self.assertTrue(self.within(shows_wrongest, board, ratios, self.within(wrongest, board, ratios)))
        self.assertEqual(len(self.within(lambda: list(AtLeast(59, *names).least_sets()))), 60)
        for many in (1, 20, 30, 59, 60):
            self.assertTrue(self.within(shows_tied, many, ratios, self.within(tied, many, ratios)))
        watches = {f"n{at}": in_a_row(2 + at // 30 * 3) for at in range(60)}
        self.assertEqual(len(self.within(on_one, AtLeast(31, *names), watches)), 7)

    def test_largest_handled_studies(self):
        rng = rng_of(36)
        for many, digits in ((12, 6), (20, 2)):
            study = large_study(rng, many, 6, 1, digits, any_places)
            names = study.watch.arms[0][1]
            study = Study(study.watch, {arm: Crowd(names, [[*crowd.corners[0][:2], *[Ratio(0)] * 3, Ratio(1) - crowd.corners[0][0]
                                                           - crowd.corners[0][1]] for _ in range(3)])
                                        for arm, crowd in study.crowds})
            doubled = Study(study.watch, {arm: study.crowds[0][1] for arm, _ in study.crowds})
            table = Table(names, names, [[HALF if other in (at, (at + 1) - 6 * (at == 5)) else 0 for other in range(6)]
                                         for at in range(6)])
            for handled in (self.within(Lost, study, 1), self.within(Lost, study, None), self.within(Doubled, doubled, 1),
                            self.within(Misread, study, table)):
                self.within(greatest, handled)
                self.within(least, handled)
                self.within(handled.carried, Costs.each_trial(study.watch))
        wide = large_study(rng, 40, 12, 96, 2, any_places)
        self.within(Misread, wide, {})
        lines = [(f"q{at}", "a", (f"q{at + 1}" if at < 99 else "lit", "dark")) for at in range(100)]
        long = Study(Watch({"a": ("x", "y")}, ["lit", "dark"], lines), {"a": Crowd.between(("x", "y"), Ratio(1, 3), HALF)})
        self.assertEqual(len(self.within(Lost, long, 1).watch), 200)

    def test_largest_pairs(self):
        rng = rng_of(37)
        for many, digits in ((23, 6), (39, 2)):
            for signs, corners in ((2, 8), (12, 96)):
                study = large_study(rng, many, signs, corners, digits, ring_places)
                arm, names = study.watch.arms[0]
                other = Watch({arm: names}, ["dark"], [("o", arm, ["dark"] * signs)])
                crowds = dict(study.crowds)
                paper = self.within(lead, study.watch, other, crowds)
                self.assertEqual(len(paper.lines), many + 1)
                self.assertTrue(self.within(shows_lead, study.watch, other, crowds, paper))
                paper = self.within(ahead, study.watch, other, crowds)
                self.assertTrue(self.within(shows_ahead, study.watch, other, crowds, paper))
                inside = self.within(within, study.watch, study.watch, crowds)
                self.assertTrue(inside and self.within(shows_within, study.watch, study.watch, inside, crowds))
        names = [f"x{at}" for at in range(12)]
        rings = [Watch({"a": names}, ["lit"], [(f"r{at}", "a", [f"r{(at + 1 + by) % size}" for by in range(12)]) for at in range(size)])
                 for size in (20, 10)]
        self.assertEqual(len(self.within(within, *rings).pairs), 20)
        long = [Watch({"a": names}, ["lit"], [(f"r{at}", "a", [f"r{(at + 1) % size}"] * 12) for at in range(size)]) for size in (199, 200)]
        self.within(shows_lead, *long, {"a": Crowd.all_sure(names)}, None)

    def test_largest_bets(self):
        rng = rng_of(38)
        for many, digits in ((24, 6), (40, 2)):
            for signs, corners in ((2, 8), (12, 96)):
                study = large_study(rng, many, signs, corners, digits, any_places)
                table = dict(greatest(study).table)
                bet = self.within(bet_of, study, table)
                self.assertIsNone(self.within(fault, study, bet))
                self.assertEqual(self.within(purse_of, study, bet), table)
                drawn = [Bet(study.watch, {state: [Ratio(rng.randint(least, 10 ** 6), rng.randint(1, 10 ** 6)) for _ in range(signs)]
                                           for state in study}) for least in (1, 10 ** 6 - 10)]
                for other in (bet, *drawn):
                    self.assertTrue(self.within(shows_capital, study, other, self.within(least_capital, study, other)))
                row, place = [], study.watch.first
                while place in study.watch and len(row) < 200:
                    row.append(study.possible_of(place)[0])
                    place = study.place(place, row[-1])
                self.within(lambda: [bet(row), list(bet.along(row)), together([("x", sign) for sign in row], x=bet)])
                self.within(lambda: Log(study, *row).chance)
        runs = Study(in_a_row(40), {"trial": Crowd.between(("hit", "miss"), Ratio(1, 99), Ratio(98, 99))})
        bet = bet_of(runs, dict(greatest(runs).table))
        self.assertEqual(self.within(least_capital, runs, bet).number, 1)
        row = ["hit", "miss"] * 5000
        wild = Bet(runs.watch, {state: (Ratio(999983, 7919), Ratio(7919, 999979)) for state in runs})
        self.within(wild, row)
        self.assertEqual(len(self.within(row_study, runs, row[:200]).watch), 200)
        self.within(lambda: Log(runs, *row[:2000]).chance)

    def test_largest_ladders(self):
        rng = rng_of(39)
        study = large_study(rng, 24, 12, 24, 6, any_places)
        ladder = self.within(Ladder, [(f"r{at}", study) for at in range(12)])
        self.within(ladder.numbers)
        self.within(first_fit, ladder, 0)
        wide = self.within(lambda: Ladder([(f"r{at}", Study.read(str(study))) for at in range(12)]))
        self.assertEqual(wide, ladder)

    def test_largest_late_studies(self):
        rng = rng_of(40)
        for many, digits in ((6, 6), (10, 2)):
            study = large_study(rng, many, 2, 23, digits, any_places)
            late = self.within(Late, Study(study.watch, {arm: study.crowds[0][1] for arm, _ in study.crowds}), 1)
            self.within(greatest, late)
            self.within(least, late)
            self.within(late.carried, Costs.each_trial(study.watch))
        lines = [(f"q{at}", "a", (f"q{at + 1}" if at < 19 else "lit", "dark")) for at in range(20)]
        long = Study(Watch({"a": ("x", "y")}, ["lit", "dark"], lines), {"a": Crowd.between(("x", "y"), Ratio(1, 3), HALF)})
        self.assertEqual(len(self.within(Late, long, 2).watch), 200)

    def test_large_crowds(self):
        rng = rng_of(32)
        names = ["a", "b", "c", "d"]
        crowd = Crowd(names, [parts_of_one(rng, 4, 6) for _ in range(24)])
        other = Crowd(names, [parts_of_one(rng, 4, 6) for _ in range(24)])
        self.assertEqual(len(self.within(leaned, crowd).kept), len(crowd.needed))
        self.within(covered, crowd, other)
        self.assertFalse(self.within(lambda: crowd == other))
        sure = Crowd.all_sure([f"x{at}" for at in range(12)])
        self.assertEqual(len(self.within(leaned, sure).kept), 12)
        self.assertTrue(self.within(covered, sure, sure))


if __name__ == "__main__":
    unittest.main()

"""The time that the largest promised shelves, halls and desks take, so that a slow answer is seen."""

import time
import unittest

from peekproof.boards import AllOf, AnyOf, AtLeast, Board, Named, Weighing
from peekproof.check_shelves import shows_choice, shows_rung
from peekproof.crowds import Crowd
from peekproof.desk import Desk
from peekproof.errors import Unsure
from peekproof.gates import Gates
from peekproof.halls import Hall
from peekproof.ladders import Ladder, first_fit
from peekproof.levels import common_level, common_rung, keeps
from peekproof.made import in_a_row, sooner
from peekproof.ratios import Ratio
from peekproof.reader import read_line
from peekproof.shelves import Shelf, Slot, most_telling
from peekproof.stories import Story
from peekproof.studies import Study
from tests.support import rng_of
from tests.test_times import any_places, large_study, ring_places

MOST_SECONDS = 10
HALF = Ratio(1, 2)
PAIR = ("hit", "miss")
NAMES = [f"n{at}" for at in range(60)]


def boards(rng):
    named = [Named(name) for name in NAMES]
    weights = [rng.randint(1, 5) for _ in named]
    return (AnyOf(*named), AllOf(*named), AtLeast(30, *named), Weighing(sum(weights) // 2, *zip(named, weights)),
            AtLeast(3, *[AtLeast(5, *named[at:at + 10]) for at in range(0, 60, 10)]))


class TimesTest(unittest.TestCase):
    def within(self, call, *arguments):
        start = time.monotonic()
        found = call(*arguments)
        self.assertLess(time.monotonic() - start, MOST_SECONDS)
        return found

    def test_largest_shelves(self):
        rng = rng_of(41)
        slots = []
        for at in range(12):
            quiet = large_study(rng, 24, 4, 8, 6, any_places)
            real = Study(quiet.watch, dict(large_study(rng, 24, 4, 8, 6, any_places).crowds))
            slots.append(Slot(f"s{at}", quiet, real))
        shelf = Shelf(slots)
        for level in (0, HALF, 1):
            try:
                paper = self.within(most_telling, shelf, level)
                self.assertTrue(self.within(shows_choice, shelf, level, paper))
            except Unsure:
                self.fail("an end is near in each state")
        ladder = Ladder([(f"r{at}", slots[0].quiet) for at in range(12)])
        self.assertTrue(self.within(shows_rung, ladder, HALF, first_fit(ladder, HALF)))

    def test_largest_levels(self):
        rng = rng_of(42)
        levels = [Ratio(at * 10 ** 10 + rng.randint(1, 10 ** 9), 10 ** 13 + 7) for at in range(200)]
        ladder = Ladder([(f"r{at}", Study(sooner(at + 1, 1), {"trial": Crowd.between(PAIR, HALF, Ratio(2, 3))})) for at in range(12)])
        for board in boards(rng):
            for level in (0, Ratio(1, 20), 1):
                self.within(common_level, board, levels, level)
                self.within(common_rung, board, {name: ladder for name in NAMES}, level)
                self.within(keeps, board, {name: levels[at] for at, name in enumerate(NAMES)}, level)

    def test_halls_of_many_studies(self):
        rng = rng_of(43)
        studies = [(name, Study(in_a_row(3 + at // 20), {"trial": Crowd.between(PAIR, Ratio(rng.randint(1, 400000), 999983),
                                                                               Ratio(rng.randint(500000, 999982), 999979))}))
                   for at, name in enumerate(NAMES)]
        cut_studies = [(name, Study(sooner(2, 3), dict(study.crowds))) for name, study in studies]
        for told in (studies, cut_studies):
            for board in boards(rng):
                hall = self.within(Hall, told, board)
                steps = [(name, rng.choice(PAIR)) for name in NAMES] * 3
                self.within(self.run_down, rng, hall, steps)
                self.within(lambda: list(hall.moments()))
                self.within(hall.likely)
                self.within(hall.lasting)
                self.within(hall.hope)
                self.within(hall.change, AnyOf(Named("n0"), Named("n1")))
                self.within(hall.twin)
                left = [name for name in NAMES if hall.runs(name)]
                self.within(lambda: hall.would(*[(name, None) for name in left[:10]]))

    def run_down(self, rng, hall, steps):
        for name, sign in steps:
            if hall.runs(name):
                hall.see(name, sign) if rng.randrange(20) else hall.stop(name)

    def test_halls_of_large_studies(self):
        rng = rng_of(44)
        for many, digits, signs, places in ((24, 6, 2, any_places), (40, 2, 2, ring_places), (24, 6, 4, ring_places)):
            studies = [(name, large_study(rng, many, signs, 8, digits, places)) for name in NAMES]
            for board in boards(rng)[1:4]:
                hall = self.within(Hall, studies, board)
                for name in NAMES[:4]:
                    if hall.runs(name):
                        self.within(hall.see, name, hall.choices(name)[0])
                try:
                    self.within(hall.hope)
                except Unsure:
                    self.assertEqual(places, any_places)
                self.within(hall.lasting)
                self.within(lambda: list(hall.moments()))

    def test_long_stories_and_many_deeds(self):
        study = Study(in_a_row(40), {"trial": Crowd.between(PAIR, Ratio(1, 99), Ratio(98, 99))})
        hall = Hall([(name, study) for name in NAMES], AtLeast(30, *[Named(name) for name in NAMES]))
        steps = [(NAMES[at % 60], PAIR[at % 2]) for at in range(200)]
        self.within(lambda: hall.carry(*steps))
        self.within(lambda: list(hall.moments()))
        self.within(lambda: [hall.back() for _ in steps])
        self.within(lambda: [hall.again() for _ in steps])
        self.within(lambda: [hall.change(Named(NAMES[at % 60])) for at in range(2000)])
        self.within(lambda: [hall.back() for _ in range(2000)])
        self.within(Story.read, str(Story(*steps)))
        self.within(lambda: Gates(*[(f"g{at}", at + 1) for at in range(20)]).bounds(HALF))

    def test_largest_desks(self):
        rng = rng_of(45)
        study = large_study(rng, 24, 4, 8, 6, ring_places)
        lines = [f"keep s{at} study {study}" for at in range(60)]
        desk = Desk()
        self.within(lambda: desk.told(*lines, "keep b board ( of 2 n0 n1 n2 )"))
        self.within(desk, "open b " + " ".join(f"n{at} s{at}" for at in range(60)))
        sign = study.possible_of(study.watch.first)[0]
        for line in ("greatest s1", "least s1", "dearest s1", "sure s1", "soonest s1", "show s1", f"see n1 {sign}", "stop n2", "back", "again"):
            self.within(desk, line)
        self.within(desk.tried, *["stop n3", "back"] * 20)
        self.within(lambda: desk == desk)
        many = Desk()
        self.within(lambda: many.told(*[f"keep k{at} gates a 1/{at + 2}" for at in range(1000)]))
        self.within(lambda: [many(f"drop k{at}") for at in range(300)])
        small = Desk()
        self.within(lambda: small.told("keep c crowd hit 1/2 miss 1/2", "keep w watch a : hit miss / lit / s a : s lit", "study s w a c",
                                       "keep b board x", "open b x s", *["see x hit"] * 200, *["back", "again"] * 300, "story", "peak"))
        self.within(read_line, "open b " + " ".join(f"x{at} s" for at in range(3000)))
        self.assertEqual(Board.read("x"), Named("x"))


if __name__ == "__main__":
    unittest.main()

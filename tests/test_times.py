"""The largest studies and crowds for which a short time is promised, so that a slow answer is seen."""

import time
import unittest

from peekproof.allowed import covered, leaned
from peekproof.crowds import Crowd
from peekproof.greatest import greatest, is_purse
from peekproof.least import least
from peekproof.ratios import Ratio
from peekproof.steady import steady
from peekproof.studies import Study
from peekproof.watches import Watch
from tests.support import rng_of

MOST_SECONDS = 5


def parts_of_one(rng, many, digits):
    """Chances of many different bottoms, with at most so many digits above and below, that add up to 1."""
    pairs = many // 2
    chances = []
    for _ in range(pairs):
        bottom = pairs * rng.randint(2, (10 ** digits - 1) // pairs)
        top = rng.randint(1, bottom // pairs - 1)
        chances += [Ratio(top, bottom), Ratio(bottom // pairs - top, bottom)]
    return chances + [Ratio(0)] * (many - len(chances))


def ring_places(states, signs, rng):
    """Round the ring, back, on or anywhere in it; an end at its two gates alone."""
    lines = []
    for at in range(len(states)):
        places = [states[(at + 1) % len(states)], states[at - 1]]
        lines.append(places + [rng.choice(states) for _ in range(signs - 2)])
    lines[0][1] = "dark"
    lines[-1][0] = "lit"
    return lines


def any_places(states, signs, rng):
    return [[rng.choice([*states, "lit", "dark"]) for _ in range(signs)] for _ in states]


def large_study(rng, many, signs, corners, digits, places):
    names = [f"x{at}" for at in range(signs)]
    states = [f"q{at}" for at in range(many)]
    lines = [(state, f"a{at}", line) for at, (state, line) in enumerate(zip(states, places(states, signs, rng)))]
    watch = Watch({f"a{at}": names for at in range(many)}, ["lit", "dark"], lines)
    return Study(watch, {arm: Crowd(names, [parts_of_one(rng, signs, digits) for _ in range(corners)])
                         for arm, _ in watch.arms})


class TimesTest(unittest.TestCase):
    def within(self, call, *arguments):
        start = time.monotonic()
        found = call(*arguments)
        self.assertLess(time.monotonic() - start, MOST_SECONDS)
        return found

    def test_largest_studies(self):
        rng = rng_of(31)
        worths = {"lit": 10 ** 13 - 1, "dark": Ratio(10 ** 12 + 1, 10 ** 13 - 1)}
        for many, digits in ((24, 6), (40, 2)):
            for places in (ring_places, any_places):
                for signs, corners in ((2, 8), (4, 24), (12, 24), (12, 96)):
                    study = large_study(rng, many, signs, corners, digits, places)
                    paper = self.within(greatest, study, worths)
                    self.assertTrue(self.within(is_purse, study, dict(paper.table), worths))
                    self.assertEqual(self.within(steady, study, dict(paper.corners), worths), dict(paper.table))
                    few = self.within(least, study, worths)
                    self.assertTrue(few.number.compared(paper.number) <= 0 if few else few.word == "trap")

    def test_long_ways_and_rings_with_sure_corners(self):
        names = ("on", "back")
        for many in (24, 40):
            states = [f"q{at}" for at in range(many)]
            lines = [(state, "coin", (states[at + 1] if at < many - 1 else "lit", states[max(at - 1, 0)]))
                     for at, state in enumerate(states)]
            watch = Watch({"coin": names}, ["lit"], lines)
            study = Study(watch, {"coin": Crowd.between(names, Ratio(1, 99), Ratio(98, 99))})
            self.assertEqual(self.within(greatest, study).number, 1)
            self.assertEqual(self.within(least, study).number, 1)
            loose = Study(watch, {"coin": Crowd.between(names, 0, 1)})
            self.assertEqual(self.within(greatest, loose).number, 1)
            self.assertEqual(self.within(least, loose).word, "trap")

    def test_large_crowds(self):
        rng = rng_of(32)
        names = ["a", "b", "c", "d"]
        crowd = Crowd(names, [parts_of_one(rng, 4, 6) for _ in range(24)])
        other = Crowd(names, [parts_of_one(rng, 4, 6) for _ in range(24)])
        self.assertEqual(len(self.within(leaned, crowd).kept), len(crowd.needed))
        self.within(covered, crowd, other)
        self.assertFalse(self.within(lambda: crowd == other))
        sure = Crowd.all_sure([f"x{at}" for at in range(12)])
        self.assertEqual(len(self.within(leaned, sure).kept), 12)
        self.assertTrue(self.within(covered, sure, sure))


if __name__ == "__main__":
    unittest.main()

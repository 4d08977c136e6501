import unittest

from peekproof.check_bets import shows_ahead, shows_lead, shows_within
from peekproof.crowds import Crowd
from peekproof.errors import BadStudy, BadWatch, TooMany, UnlikeArms, UnlikeSigns
from peekproof.greatest import greatest
from peekproof.leads import Ahead, Lead, ahead, lead
from peekproof.made import in_a_row, in_all, sooner, spotted
from peekproof.papers import Denial, Paper
from peekproof.ratios import Ratio
from peekproof.studies import Study
from peekproof.watches import Watch
from peekproof.within import Row, Within, within
from tests import beside_oracle
from tests.paper_oracle import bent, bent_paper
from tests.study_oracle import number
from tests.support import ANY_VALUES, Case, drawn_crowd, drawn_watch, rng_of

PAIR = ("hit", "miss")
COIN = {"coin": PAIR}
TWO_ARMS = {"coin": PAIR, "card": ("a", "b", "c")}
HALF = Ratio(1, 2)
EVEN = {"trial": Crowd.just(PAIR, (HALF, HALF))}
WIDE = {"trial": Crowd.between(PAIR, Ratio(1, 4), Ratio(3, 4))}


def line_watch(many, arms=1, last="lit", misses="dark"):
    """A watch that many hits light."""
    lines = [(f"q{at}", f"a{at % arms}", (f"q{at + 1}" if at < many - 1 else last, misses)) for at in range(many)]
    return Watch({f"a{at}": PAIR for at in range(arms)}, ["lit", "dark"], lines)


def ring_watch(many):
    """A watch whose states are gone round by each sign, and that no sign ends."""
    lines = [(f"r{at}", "a0", [f"r{(at + 1) % many}"] * 2) for at in range(many)]
    return Watch({"a0": PAIR}, ["lit"], lines)


def drawn_pair(rng, arms, most=3):
    return [drawn_watch(rng, rng.randint(1, most), arms, ("lit", "dark") if rng.randrange(3) else ("off", "lit", "dark"))
            for _ in range(2)]


def drawn_crowds(rng, one, other, corners=2):
    arms = {**dict(one.arms), **dict(other.arms)}
    return {arm: drawn_crowd(rng, signs, rng.randint(1, corners), 2) for arm, signs in arms.items()}


class WithinTest(Case):
    def test_ordinary_ones(self):
        self.assertTrue(within(in_a_row(3), in_a_row(2)))
        self.assertEqual(within(in_a_row(2), in_a_row(3)), Row(("hit", "hit")))
        self.assertEqual(within(one=in_a_row(3), other=in_all(3)).pairs, (("s0", "s0"), ("s1", "s1"), ("s2", "s2"), ("s0", "s1"),
                                                                        ("s0", "s2"), ("s1", "s2")))
        self.assertEqual(within(in_all(3), in_a_row(3)).row, ("hit", "hit", "miss", "hit"))
        self.assertEqual(within(in_a_row(1), in_a_row(1)), Within([("s0", "s0")]))
        self.assertEqual((within(in_a_row(2), in_a_row(2)).word, within(in_all(2), in_all(3)).word), ("within", "row"))
        self.assertIsInstance(within(in_all(2), in_all(3)), Denial)
        never_hit = {"trial": Crowd.just(PAIR, (0, 1))}
        self.assertEqual(within(in_a_row(2), in_a_row(3), never_hit), Within((("s0", "s0"),)))
        self.assertTrue(within(in_a_row(2), in_a_row(3), crowds=never_hit))
        self.assertEqual(within(in_a_row(2), in_a_row(3), None), within(in_a_row(2), in_a_row(3)))

    def test_other_that_has_ended_is_asked_no_more(self):
        one = Watch({"a": PAIR, "b": PAIR}, ["lit"], [("p", "a", ("q", "p")), ("q", "b", ("lit", "p"))])
        other = Watch({"a": PAIR}, ["lit", "dark"], [("p", "a", ("dark", "lit"))])
        self.assertEqual(within(one, other).row, ("hit", "hit"))
        self.assertTrue(within(other, one, {"a": Crowd.just(PAIR, (1, 0)), "b": Crowd.just(PAIR, (1, 0))}))
        self.assertEqual(within(other, one).row, ("miss",))

    def test_drawn_against_all_rows(self):
        rng = rng_of(121)
        counts = {"within": 0, "row": 0, "unlike": 0}
        for _ in range(400):
            one, other = drawn_pair(rng, rng.choice([COIN, COIN, TWO_ARMS]))
            crowds = drawn_crowds(rng, one, other) if rng.randrange(2) else None
            pairs, unlike, _ = beside_oracle.met(one, other, crowds, False)
            if pairs is None:
                self.refused(UnlikeArms, {"one": unlike[0], "other": unlike[1]}, within, one, other, crowds)
                counts["unlike"] += 1
                continue
            found = within(one, other, crowds)
            counts[found.word] += 1
            # The least row goes through no pair twice.
            row = beside_oracle.least_row(one, other, crowds, min(len(pairs), 9))
            if row is not None:
                self.assertEqual(found, Row(row))
            elif len(pairs) <= 9:
                self.assertEqual(found, Within(pairs))
            self.assertTrue(shows_within(one, other, found, crowds))
        self.assertTrue(min(counts.values()) > 20, counts)

    def test_facts(self):
        rng = rng_of(122)
        seen = {True: 0, False: 0}
        for _ in range(300):
            one, other = drawn_pair(rng, COIN)
            crowds = drawn_crowds(rng, one, other)
            inside = bool(within(one, other, crowds))
            seen[inside] += 1
            self.assertEqual(ahead(one, other, crowds).number == 0, inside)
            if inside and within(one, other):
                self.assertTrue(greatest(Study(one, {arm: crowds[arm] for arm, _ in one.arms})).number.compared(
                    greatest(Study(other, {arm: crowds[arm] for arm, _ in other.arms})).number) <= 0)
            free = {arm: Crowd.all_sure(signs) for arm, signs in {**dict(one.arms), **dict(other.arms)}.items()}
            self.assertEqual(bool(within(one, other)), ahead(one, other, free).number == 0)
            self.assertEqual(bool(within(one, other)), lead(one, other, free).number == 0)
        self.assertTrue(min(seen.values()) > 40)


class LeadTest(Case):
    def test_ordinary_ones(self):
        found = ahead(in_a_row(1), in_a_row(2), EVEN)
        self.assertEqual(found, Ahead(1, [("s0", "s0", 1, 0, 1)]))
        self.assertEqual(lead(in_a_row(2), in_a_row(1), EVEN), Lead(0, [("s0", "s0", 0, None, 0), ("s1", "lit", 0, 0, 1),
                                                                      ("s0", "lit", 0, 0, 2)]))
        self.assertEqual(ahead(in_a_row(2), in_a_row(1), EVEN), Ahead(0, [("s0", "s0", 0, None, 0)]))
        one, other = sooner(1, 1), sooner(2, 2)
        self.assertEqual(ahead(one, other, WIDE).number, Ratio(3, 4))
        self.assertEqual(lead(one, other, WIDE).number, Ratio(3, 4))
        # A miss ends other; then one is lit with 27/40, and behind a hit it lags behind with 1/40: 81/160 - 1/160.
        self.assertEqual(lead(other, one, WIDE).number, HALF)
        self.assertEqual(lead(one=other, other=one, crowds=WIDE).lines[0][:4], ("s0", "s0", HALF, 0))
        self.all_ratios([line[2] for line in lead(one, other, WIDE).lines])

    def test_lines_of_each_kind(self):
        # A hit lights other, and then one, or never one: the world of one corner looks at once, the other one goes on.
        one = Watch({"a": ("x", "y", "z")}, ["lit", "dark"], [("p", "a", ("q", "dark", "lit")), ("q", "a", ("lit", "q", "dark"))])
        other = Watch({"a": ("x", "y", "z")}, ["lit", "dark"], [("p", "a", ("lit", "dark", "dark"))])
        stays = {"a": Crowd(("x", "y", "z"), [(1, 0, 0), (0, 1, 0)])}
        found = lead(one, other, stays)
        self.assertEqual(found, Lead(0, [("p", "p", 0, None, 0), ("q", "lit", 0, 0, 1)]))
        self.assertTrue(shows_lead(one, other, stays, found))
        for line in (("p", "p", 0, 1, 1), ("p", "p", 0, 0, 2)):
            self.assertTrue(shows_lead(one, other, stays, Lead(0, [line, ("q", "lit", 0, 0, 1)])))
        for line in (("q", "lit", 0, 1, 1), ("q", "lit", -1, None, 0), ("q", "lit", 0, None, 0), ("q", "lit", 1, 0, 1)):
            self.assertIs(shows_lead(one, other, stays, Lead(0, [("p", "p", 0, None, 0), line])), False)
        never = {"a": Crowd(("x", "y", "z"), [(1, 0, 0), (0, 0, 1)])}
        self.assertEqual(lead(one, other, never).number, 1)
        self.assertEqual(ahead(one, other, never), Ahead(1, [("p", "p", 1, 1, 1)]))

    def test_worlds_that_only_stay(self):
        # From q no world comes to an end, but a look there is worth more than one behind it.
        one = Watch({"a": PAIR}, ["lit"], [("p", "a", ("q", "q")), ("q", "a", ("q", "q"))])
        other = Watch({"a": PAIR}, ["lit"], [("p", "a", ("r", "lit")), ("r", "a", ("lit", "lit"))])
        even = {"a": Crowd.just(PAIR, (HALF, HALF))}
        found = lead(one, other, even)
        self.assertEqual(found, Lead(0, [("p", "p", 0, None, 0), ("q", "r", 0, None, 0), ("q", "lit", -1, None, 0)]))
        self.assertEqual(ahead(one, other, even), Ahead(0, [("p", "p", 0, None, 0), ("q", "r", 0, None, 0)]))

    def test_drawn_against_kept_corners(self):
        rng = rng_of(123)
        solved = 0
        for _ in range(250):
            one, other = drawn_pair(rng, rng.choice([COIN, {"die": ("a", "b", "c")}]))
            crowds = drawn_crowds(rng, one, other)
            for call, shows, is_lead in ((lead, shows_lead, True), (ahead, shows_ahead, False)):
                found = call(one, other, crowds)
                pairs, _, _ = beside_oracle.met(one, other, crowds, is_lead)
                self.assertEqual([line[:2] for line in found.lines], pairs)
                wanted = beside_oracle.worths(one, other, crowds, pairs, is_lead)
                if wanted is not None:
                    solved += 1
                    self.assertEqual([number(line[2]) for line in found.lines], wanted)
                    self.assertEqual(number(found.number), wanted[0])
                self.assertTrue(shows(one, other, crowds, found))
                self.assertTrue(beside_oracle.are_right_lines(one, other, crowds, found, is_lead))
        self.assertGreater(solved, 250)


class ErrorsTest(Case):
    def test_errors_in_their_order(self):
        coin, turned = line_watch(1), Watch({"a0": PAIR[::-1]}, ["lit"], [("s", "a0", ("lit", "lit"))])
        calls = [lambda one, other, crowds=None: within(one, other, crowds), lead, ahead,
                 lambda one, other, crowds: shows_within(one, other, None, crowds),
                 lambda one, other, crowds: shows_lead(one, other, crowds, None),
                 lambda one, other, crowds: shows_ahead(one, other, crowds, None)]
        for call in calls:
            for value in ANY_VALUES:
                self.refused(BadWatch, {"part": "one"}, call, value, value, value)
                self.refused(BadWatch, {"part": "other"}, call, coin, value, value)
                self.refused(UnlikeSigns, {"label": "a0"}, call, coin, turned, value)
                if value is not None:
                    self.refused(BadStudy, {"part": "crowds"}, call, coin, coin, value)
            right = Crowd.just(PAIR, (0, 1))
            for value in ({}, {"a0": None}, {"a0": right, "b": right}, {"b": right}, {"a0": PAIR}, {None: right}, [("a0", right)]):
                self.refused(BadStudy, {"part": "crowds"}, call, coin, coin, value)
            two = line_watch(2, 2)
            self.refused(BadStudy, {"part": "crowds"}, call, coin, two, {"a0": right})
            self.refused(BadStudy, {"part": "crowds"}, call, two, coin, {"a0": right})
            self.refused(BadStudy, {"part": "crowds"}, call, coin, coin, {"a0": Crowd.just(PAIR[::-1], (0, 1)), "a1": right})
            wrong = Crowd.just(PAIR[::-1], (0, 1))
            self.refused(BadStudy, {"part": "signs"}, call, coin, coin, {"a0": wrong})
            self.refused(BadStudy, {"part": "signs"}, call, two, coin, {"a0": right, "a1": wrong})
            self.refused(BadStudy, {"part": "signs"}, call, line_watch(1), Watch({"b": PAIR}, ["lit"], [("s", "b", ("lit", "lit"))]),
                         {"a0": right, "b": Crowd.just(("hit", "x"), (0, 1))})
        for call in (lead, ahead):
            self.refused(BadStudy, {"part": "crowds"}, call, coin, coin, None)
        for call in (shows_lead, shows_ahead):
            self.refused(BadStudy, {"part": "crowds"}, call, coin, coin, None, None)

    def test_the_first_unlike_arm(self):
        arms = {"b": PAIR, "a": PAIR}
        lines = [("p", "b", ("q", "q")), ("q", "a", ("p", "lit"))]
        turned = Watch({"a": PAIR[::-1], "b": PAIR[::-1]}, ["lit"], [("p", "a", ("q", "q")), ("q", "b", ("p", "lit"))])
        self.refused(UnlikeSigns, {"label": "b"}, within, Watch(arms, ["lit"], lines), turned)
        self.refused(UnlikeSigns, {"label": "a"}, within, turned, Watch(arms, ["lit"], lines))

    def test_unlike_arms(self):
        one = Watch({"a": PAIR, "b": PAIR}, ["lit"], [("p", "a", ("lit", "q")), ("q", "b", ("lit", "p"))])
        other = Watch({"a": PAIR}, ["lit", "dark"], [("p", "a", ("dark", "r")), ("r", "a", ("dark", "dark"))])
        first = Watch({"b": PAIR}, ["lit"], [("o", "b", ("lit", "lit"))])
        self.refused(UnlikeArms, {"one": "p", "other": "o"}, within, one, first)
        # A Row lies nearer, but all pairs are met ahead of it.
        self.refused(UnlikeArms, {"one": "q", "other": "r"}, within, one, other)
        self.assertEqual(within(one, other, {"a": Crowd.just(PAIR, (1, 0)), "b": Crowd.just(PAIR, (1, 0))}), Row(("hit",)))
        both = {"a": Crowd.just(PAIR, (HALF, HALF)), "b": Crowd.just(PAIR, (HALF, HALF))}
        for call in (lead, ahead, within):
            self.refused(UnlikeArms, {"one": "q", "other": "r"}, call, one, other, both)
        self.assertIs(shows_lead(one, other, both, None), False)
        self.assertTrue(shows_within(one, other, Row(("hit",)), both))
        self.assertTrue(shows_within(one, other, Row(("hit",))))
        self.assertIs(shows_within(one, other, Row(("miss", "hit"))), False)
        self.assertIs(shows_within(one, other, Within((("p", "p"), ("q", "r")))), False)

    def test_an_open_pair_that_is_decided(self):
        # Behind lit of other the arms of one count no more for within and ahead; for lead they are no second arms.
        one = Watch({"a": PAIR, "b": PAIR}, ["lit"], [("p", "a", ("q", "q")), ("q", "b", ("lit", "p"))])
        other = Watch({"a": PAIR}, ["lit"], [("p", "a", ("lit", "lit"))])
        both = {"a": Crowd.just(PAIR, (HALF, HALF)), "b": Crowd.just(PAIR, (HALF, HALF))}
        self.assertEqual(within(one, other, both), Within((("p", "p"),)))
        self.assertEqual([line[:2] for line in lead(one, other, both).lines], [("p", "p"), ("q", "lit"), ("p", "lit")])
        self.assertEqual(lead(one, other, both).lines[1:], (("q", "lit", 0, 0, 1), ("p", "lit", 0, 0, 2)))

    def test_sizes(self):
        # Rings of p and q states stand at pairs that are met one behind the other, as many as their product.
        rings = {many: ring_watch(many) for many in (1, 3, 5, 7, 8, 25, 29, 41, 40, 67, 200)}
        free = {"a0": Crowd.just(PAIR, (1, 0))}
        self.assertEqual(len(within(rings[25], rings[8]).pairs), 200)
        self.refused(TooMany, {"what": "pairs", "most": 200}, within, rings[3], rings[67])
        self.refused(TooMany, {"what": "pairs", "most": 200}, within, rings[7], rings[29])
        self.assertEqual(len(within(rings[200], rings[1]).pairs), 200)
        for call in (lead, ahead):
            self.assertEqual(len(call(rings[8], rings[5], free).lines), 40)
            self.assertEqual(len(call(rings[40], rings[1], free).lines), 40)
            self.refused(TooMany, {"what": "pairs", "most": 40}, call, rings[41], rings[1], free)
        for shows, kind in ((shows_lead, Lead), (shows_ahead, Ahead)):
            lines = [(f"r{at}", "r0", 0, None, 0) for at in range(41)]
            self.assertTrue(shows(rings[41], rings[1], free, kind(0, lines)))
            self.assertIs(shows(rings[41], rings[1], free, kind(0, lines[:40])), False)
        wide = [(f"r{at - at // 7 * 7}", f"r{at - at // 29 * 29}") for at in range(203)]
        self.assertTrue(shows_within(rings[7], rings[29], Within(wide)))

    def test_pairs_that_count(self):
        # Where other is lit, a pair is open, but not undecided: 39 further states of one count for lead alone.
        one, other = line_watch(41), line_watch(1)
        even = {"a0": Crowd.between(PAIR, 0, HALF)}
        self.assertEqual(len(ahead(one, other, even).lines), 1)
        self.assertEqual(len(within(one, other).pairs), 1)
        self.refused(TooMany, {"what": "pairs", "most": 40}, lead, one, other, even)
        self.assertEqual(len(lead(line_watch(40), other, even).lines), 40)
        self.assertEqual(lead(one, other, {"a0": Crowd.just(PAIR, (0, 1))}), Lead(0, [("q0", "q0", 0, None, 0)]))

    def test_unlike_arms_ahead_of_too_many(self):
        # The 41st pair that is met asks two arms, and is one more than the most, too.
        states = [f"r{at}" for at in range(41)]
        lines = [(state, "b" if at == 40 else "a", [states[(at + 1) % 41]] * 2) for at, state in enumerate(states)]
        one = Watch({"a": PAIR, "b": PAIR}, ["lit"], lines)
        other = Watch({"a": PAIR}, ["lit"], [("s", "a", ("s", "s"))])
        crowds = {"a": Crowd.just(PAIR, (1, 0)), "b": Crowd.just(PAIR, (1, 0))}
        for call in (lead, ahead):
            self.refused(UnlikeArms, {"one": "r40", "other": "s"}, call, one, other, crowds)
        moved = Watch({"a": PAIR, "b": PAIR}, ["lit"], [*lines[:40], ("r40", "a", ["r41"] * 2), ("r41", "b", ["r0"] * 2)])
        for call in (lead, ahead):
            self.refused(TooMany, {"what": "pairs", "most": 40}, call, moved, other, crowds)
        self.refused(UnlikeArms, {"one": "r41", "other": "s"}, within, moved, other)


class ShownTest(Case):
    def test_bent_papers_of_within(self):
        rng = rng_of(124)
        counts = {(kind, shown): 0 for kind in (Within, Row) for shown in (True, False)}
        for _ in range(250):
            one, other = drawn_pair(rng, rng.choice([COIN, COIN, TWO_ARMS]))
            crowds = drawn_crowds(rng, one, other) if rng.randrange(2) else None
            pairs, _, _ = beside_oracle.met(one, other, crowds, False)
            papers = [Row([rng.choice([*PAIR, "a", "b"]) for _ in range(rng.randint(1, 4))])]
            papers.append(within(one, other, crowds) if pairs else Within([(one.first, other.first)]))
            for paper in papers:
                for _ in range(8):
                    self.check_within(one, other, crowds, bent_paper(rng, paper), counts)
            if pairs:
                more = [*pairs, *[(state, place) for state in one for place in [*other, *other.ends] if rng.randrange(2)]]
                self.check_within(one, other, crowds, Within(more), counts)
                self.check_within(one, other, crowds, Within(list(dict.fromkeys(more))), counts)
                self.check_within(one, other, crowds, Within(pairs[::-1]), counts)
        self.assertTrue(min(counts.values()) > 20, counts)

    def check_within(self, one, other, crowds, paper, counts):
        if isinstance(paper, Within):
            wanted = beside_oracle.is_right_within(one, other, crowds, paper.pairs)
        else:
            wanted = beside_oracle.is_right_row(one, other, crowds, paper.row)
        self.assertIs(shows_within(one, other, paper, crowds), wanted)
        self.assertIs(shows_within(one=one, other=other, value=paper, crowds=crowds), wanted)
        counts[paper.__class__, wanted] += 1

    def test_bent_papers_of_leads(self):
        rng = rng_of(125)
        counts = {(kind, shown): 0 for kind in (Lead, Ahead) for shown in (True, False)}
        for _ in range(200):
            one, other = drawn_pair(rng, COIN, 2)
            crowds = drawn_crowds(rng, one, other)
            for call, shows, is_lead in ((lead, shows_lead, True), (ahead, shows_ahead, False)):
                right = call(one, other, crowds)
                for _ in range(12):
                    paper = bent_paper(rng, right)
                    if rng.randrange(3) == 0:
                        at = rng.randrange(len(right.lines))
                        paper = right.__class__(right.number, [*right.lines[:at], bent(rng, right.lines[at]), *right.lines[at + 1:]])
                    wanted = beside_oracle.are_right_lines(one, other, crowds, paper, is_lead)
                    self.assertIs(shows(one, other, crowds, paper), wanted)
                    counts[paper.__class__, wanted] += 1
        self.assertTrue(min(counts.values()) > 60, counts)

    def test_other_worths(self):
        # Greater tables keep the rule, too, but no line shows them; a rank may be greater than it need be.
        one, other = sooner(1, 1), sooner(2, 2)
        right = lead(other, one, WIDE)
        lines = [list(line) for line in right.lines]
        for at, line in enumerate(lines):
            for change in ({4: line[4] + 7}, {4: line[4] - 1}, {4: None}, {4: True}, {4: Ratio(line[4])}, {3: None, 4: 0},
                           {2: line[2] + 1}, {3: 1 - (line[3] or 0)}, {3: True}, {0: line[1], 1: line[0]}, {0: ["s0"]}):
                told = [[change.get(place, part) for place, part in enumerate(other_line)] if other_line is line else other_line
                        for other_line in lines]
                paper = Lead(right.number, told)
                self.assertIs(shows_lead(other, one, WIDE, paper), beside_oracle.are_right_lines(other, one, WIDE, paper, True))
        self.assertIs(shows_lead(other, one, WIDE, Ahead(*right.parts)), False)
        self.assertIs(shows_ahead(other, one, WIDE, right), False)

    def test_worths_below_the_difference(self):
        # Who goes on from here falls behind: a look is worth more.
        one = Watch({"a": ("x", "y")}, ["dark"], [("p", "a", ("dark", "dark"))])
        other = Watch({"a": ("x", "y")}, ["lit"], [("p", "a", ("lit", "lit"))])
        crowds = {"a": Crowd.all_sure(("x", "y"))}
        self.assertEqual(lead(one, other, crowds), Lead(0, [("p", "p", 0, None, 0)]))
        self.assertIs(shows_lead(one, other, crowds, Lead(-1, [("p", "p", -1, 0, 1)])), False)
        self.assertTrue(shows_ahead(one, other, crowds, Ahead(0, [("p", "p", 0, 0, 1)])))
        self.assertIs(shows_ahead(one, other, crowds, Ahead(-1, [("p", "p", -1, 0, 1)])), False)

    def test_values_of_any_kind(self):
        one, other = in_a_row(2), in_a_row(3)
        for value in [*ANY_VALUES, Paper("row", ("hit", "hit")), Denial("row", ("hit", "hit")), Paper("within", ())]:
            self.assertIs(shows_within(one, other, value), False)
            self.assertIs(shows_within(one, other, Row(value)), False)
            self.assertIs(shows_within(one, other, Row(["hit", value])), False)
            self.assertIs(shows_within(one, other, Within(value)), False)
            self.assertIs(shows_within(other, one, Within([("s0", value)])), False)
            self.assertIs(shows_within(other, one, Within([value, ("s0", "s0"), ("s1", "s1")])), False)
            for shows, kind in ((shows_lead, Lead), (shows_ahead, Ahead)):
                self.assertIs(shows(one, other, EVEN, value), False)
                self.assertIs(shows(one, other, EVEN, kind(0, value)), False)
                self.assertIs(shows(one, other, EVEN, kind(value, [value])), False)
        self.assertTrue(shows_within(one, other, Row(("miss", "hit", "hit"))))
        self.assertIs(shows_within(one, other, Row(("hit", "hit", "hit"))), False)
        self.assertIs(shows_within(one, spotted(("hit", "hit")), Row(("hit", "hit"))), False)


if __name__ == "__main__":
    unittest.main()

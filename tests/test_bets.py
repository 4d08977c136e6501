import itertools
import unittest

from peekproof.bets import Bet, bet_of, fault, together
from peekproof.check_bets import shows_capital
from peekproof.crowds import Crowd
from peekproof.errors import (BadBet, BadLog, BadNumbers, BadStudy, BadText, BadWatch, NoPurse, NoSign, NoState, NoStudy, Nothing,
                              Over, TooMany, Unfair)
from peekproof.greatest import greatest, is_purse
from peekproof.logs import Log, row_study
from peekproof.made import in_a_row, sooner
from peekproof.papers import Denial, Paper
from peekproof.ratios import Ratio
from peekproof.studies import Study
from peekproof.walks import Capital, Never, Ring, Ruined, least_capital, purse_of
from peekproof.watches import Watch
from tests import bet_oracle
from tests.bet_oracle import bet_word, capital
from tests.paper_oracle import bent_paper
from tests.study_oracle import mean, moves, number
from tests.support import ANY_VALUES, NO_TEXTS, Case, bent, drawn_study, rng_of
from tests.test_solved import QUARTER, TURN, long_study

HALF = Ratio(1, 2)
PAIR = ("hit", "miss")
EVEN = Crowd.just(PAIR, (HALF, HALF))
RUNS = in_a_row(2)
FAIR = Bet(RUNS, {"s0": (Ratio(3, 2), HALF), "s1": [2, 0]})


def drawn_bet(rng, watch, shares=(0, HALF, 1, 1, 2, Ratio(3, 2))):
    return Bet(watch, {state: [rng.choice(shares) for _ in watch.signs_of(state)] for state in watch if rng.randrange(4)})


def drawn_row(rng, watch, most=8):
    row, place = [], watch.first
    while place in watch and len(row) < most:
        row.append(rng.choice(watch.signs_of(place)))
        place = watch.place(place, row[-1])
    return row


class BetTest(Case):
    def test_parts(self):
        self.assertEqual(FAIR.factors, (("s0", (Ratio(3, 2), HALF)), ("s1", (2, 0))))
        self.assertEqual(FAIR.watch, RUNS)
        self.all_ratios([factor for _, line in FAIR.factors for factor in line])
        self.assertEqual(Bet(watch=RUNS, factors={}).factors, (("s0", (1, 1)), ("s1", (1, 1))))
        self.assertEqual([FAIR.factor("s0", "miss"), FAIR.factor("s1", "hit")], [HALF, 2])
        self.assertIsInstance(FAIR.factor("s1", "miss"), Ratio)
        self.assertEqual([FAIR(()), FAIR(["hit"]), FAIR(("hit", "hit")), FAIR(("miss", "hit", "hit"))], [1, Ratio(3, 2), 3, Ratio(3, 2)])
        self.assertEqual(list(FAIR.along(("miss", "hit", "miss"))), [1, HALF, Ratio(3, 4), 0])
        self.all_ratios([FAIR(()), *FAIR.along(["hit"])])
        self.assertEqual((len(list(FAIR.along(()))), len(list(FAIR.along(row=["hit"])))), (1, 2))

    def test_drawn_rows(self):
        rng = rng_of(131)
        for _ in range(80):
            bet = drawn_bet(rng, drawn_study(rng, rng.randint(1, 4)).watch)
            row = drawn_row(rng, bet.watch)
            self.assertEqual(number(bet(row)), capital(bet, row))
            self.assertEqual([number(item) for item in bet.along(row)], [capital(bet, row[:many]) for many in range(len(row) + 1)])

    def test_bad_parts(self):
        for value in ANY_VALUES:
            self.refused(BadWatch, {"part": "watch"}, Bet, value, value)
        bad = [value for value in ANY_VALUES if value != {}] + [
            {"s2": (1, 1)}, {"s0": 1}, {"s0": (1,)}, {"s0": (1, 1, 1)}, {"s0": (1, -1)}, {"s0": (1, True)}, {"s0": (1, None)},
            {"s0": {"hit": 1, "miss": 1}}, {None: (1, 1)}, {"s0": (1, 1), 0: (1, 1)}, {"lit": (1, 1)}, {"s0": "11"},
            {"s0": (1, 0.5)}, {"s0": (1, Ratio(-1, 9))}, {"s0": None}]
        for value in bad:
            self.refused(BadBet, {"part": "factors"}, Bet, RUNS, value)
        for value in [*ANY_VALUES, "lit", "s2", "trial"]:
            self.refused(NoState, {"name": value}, FAIR.factor, value, value)
        for value in [*ANY_VALUES, "s0"]:
            self.refused(NoSign, {"name": value}, FAIR.factor, "s0", value)
        for call in (FAIR, lambda row: list(FAIR.along(row))):
            for value in [value for value in ANY_VALUES if not isinstance(value, (list, tuple))]:
                self.refused(BadWatch, {"part": "row"}, call, value)
            for value in ANY_VALUES:
                self.refused(NoSign, {"name": value}, call, ["hit", value])
            self.refused(NoSign, {"name": "hit"}, call, ("hit", "hit", "hit"))

    def test_equality(self):
        bets = [FAIR, Bet(RUNS, {}), Bet(RUNS, {"s0": (1, 2)}), Bet(RUNS, {"s1": (1, 2)}), Bet(in_a_row(1), {}), Bet(in_a_row(2, arm="a"), {})]
        for one, other in itertools.combinations(bets, 2):
            self.assertTrue(one != other and not one == other)
        self.assertEqual(Bet(RUNS, {"s1": (1, 1)}), Bet(RUNS, {}))
        for value in [*ANY_VALUES, RUNS]:
            self.assertIs(FAIR == value, False)

    def test_texts(self):
        self.assertEqual(str(FAIR), "trial : hit miss / lit / s0 trial : s1 s0 / s1 trial : lit s0 * 3/2 1/2 2 0")
        self.assertEqual(Bet.read(str(FAIR)), FAIR)
        rng = rng_of(132)
        for _ in range(60):
            bet = drawn_bet(rng, drawn_study(rng, rng.randint(1, 4)).watch)
            again = Bet.read(str(bet))
            self.assertEqual((again, str(again)), (bet, str(bet)))

    def test_bent_texts(self):
        rng = rng_of(133)
        words = ["*", "/", ":", "1", "0", "1/2", "-1", "2/4", "hit", "s0", "lit", "", "trial", "01", "1" * 61, "q9"]
        told = 0
        for _ in range(1500):
            bet = drawn_bet(rng, drawn_study(rng, rng.randint(1, 3)).watch)
            text = bent(rng, str(bet), words)
            word = bet_word(text.split(" "))
            if word is None:
                self.assertEqual(str(Bet.read(text)), text)
            else:
                told += 1
                self.refused_text(word, Bet.read, text)
        self.assertGreater(told, 800)
        for value in NO_TEXTS:
            self.refused_text(0, Bet.read, value)

    def test_texts_refused_at_their_words(self):
        watch = "trial : hit miss / lit / s0 trial : s1 s0 / s1 trial : lit s0"
        for text, word in ((watch, 18), (f"{watch} *", 19), (f"{watch} * 1 1 1", 22), (f"{watch} * 1 1 1 1 1", 23), (f"{watch} * 1 1 -1 1", 21),
                           (f"{watch} * 1 2/4 1 1", 20), (f"{watch} / * 1 1 1 1", 19), (f"{watch} ** 1 1 1 1", 18), ("", 0), ("*", 0),
                           ("* 1", 0), (f"{watch} * * 1 1 1", 19), (f"{watch[:-3]} * 1 1 1 1", 17), (f"{watch[:-2]}q9 * 1 1 1 1", 17),
                           (f"{watch} * 1 1 1 1 ", 23), (f"{watch}  * 1 1 1 1", 18), (f"{watch} 1 1 1 1", 18), ("a : x / b : y / lit / s a : lit *", 14),
                           (f"{watch} * 1 1 1 {'1' * 61}", 22), (f"{watch} * 1 1 1 {'1' * 60}", None)):
            if word is None:
                self.assertEqual(str(Bet.read(text)), text)
            else:
                self.refused_text(word, Bet.read, text)


class PurseTest(Case):
    def test_fault(self):
        study = Study(RUNS, {"trial": Crowd.between(PAIR, Ratio(1, 4), HALF)})
        self.assertIsNone(fault(study, FAIR))
        self.assertEqual(fault(study, Bet(RUNS, {"s1": (3, 0)})), ("s1", 1, Ratio(3, 2)))
        self.assertEqual(fault(study, Bet(RUNS, {"s0": (1, 2), "s1": (3, 0)})), ("s0", 0, Ratio(7, 4)))
        self.assertEqual(fault(study=study, bet=Bet(RUNS, {"s0": (2, Ratio(2, 3))})), ("s0", 1, Ratio(4, 3)))
        spare = Study(Watch({"c": PAIR}, ["lit"], [("a", "c", ("lit", "lit")), ("b", "c", ("a", "b"))]), {"c": EVEN})
        self.assertIsNone(fault(spare, Bet(spare.watch, {"b": (9, 9)})))
        rng = rng_of(134)
        for _ in range(80):
            study = drawn_study(rng, rng.randint(1, 3))
            bet = drawn_bet(rng, study.watch)
            means = [(state, at, sum(number(chance) * number(factor) for chance, factor in zip(corner, dict(bet.factors)[state])))
                     for state in study.states for at, corner in enumerate(study.corners_of(state))]
            wanted = next(((state, at, value) for state, at, value in means if value > 1), None)
            found = fault(study, bet)
            self.assertEqual(found and (found[0], found[1], number(found[2])), wanted)

    def test_bets_of_purses(self):
        rng = rng_of(135)
        for _ in range(100):
            study = drawn_study(rng, rng.randint(1, 4))
            table = dict(greatest(study).table)
            if rng.randrange(3) == 0:
                table = {state: value + rng.choice([0, HALF]) if value != 1 else value + 1 for state, value in table.items()}
                if not is_purse(study, table):
                    continue
            bet = bet_of(study, table)
            self.assertIsNone(fault(study, bet))
            worths = {**{end: Ratio(int(end == "lit")) for end in study.watch.ends}, **table}
            for state in study.watch:
                for sign in study.watch.signs_of(state):
                    if state not in study:
                        self.assertEqual(bet.factor(state, sign), 1)
                    elif sign not in study.possible_of(state) or table[state] == 0:
                        self.assertEqual(bet.factor(state, sign), 0)
                    else:
                        self.assertEqual(bet.factor(state, sign), Ratio.of(worths[study.place(state, sign)]).over(table[state]))
            first = table[study.watch.first]
            for row in study.rows(4):
                if first != 0:
                    self.assertEqual(bet(row), Ratio.of(worths[study.watch.after(row)]).over(first))
            if table == dict(greatest(study).table):
                paper = least_capital(study, bet)
                self.assertIn(paper.word, ("capital", "never"))
                self.assertEqual(purse_of(study, bet), table)

    def test_bad_tables(self):
        for value in [*ANY_VALUES, {"one": 1}, {"one": 1, "two": HALF}, {"one": 1, "two": 1, "x": 1}, {"one": True, "two": 1}]:
            self.refused(BadBet, {"part": "table"}, bet_of, QUARTER, value)
        for value in [*ANY_VALUES, TURN]:
            self.refused(BadStudy, {"part": "study"}, bet_of, value, value)
        self.assertEqual(bet_of(study=QUARTER, table={"one": 1, "two": 1}).factors, (("one", (0, 1)), ("two", (1, 0))))

    def test_purses_of_bets(self):
        rng = rng_of(136)
        counts = {}
        for _ in range(400):
            study = drawn_study(rng, rng.randint(1, 4), 2, most=2)
            bet = drawn_bet(rng, study.watch)
            word, table = bet_oracle.case(study, bet)
            found = fault(study, bet)
            if found is not None:
                self.refused(Unfair, {"state": found[0], "corner": found[1]}, purse_of, study, bet)
                word = "unfair"
            elif word in ("ruined", "ring"):
                self.refused(NoPurse, {"word": word}, purse_of, study, bet)
            else:
                purse = purse_of(study=study, bet=bet)
                self.assertEqual(list(purse), list(study.states))
                self.assertEqual({state: number(value) for state, value in purse.items()},
                                 {state: 1 / table[state] if table and state in table else 0 for state in study.states})
                self.assertTrue(is_purse(study, purse))
                self.all_ratios(purse.values())
            counts[word] = counts.get(word, 0) + 1
        self.assertEqual(sorted(counts), ["capital", "never", "ring", "ruined", "unfair"])
        self.assertGreater(min(counts.values()), 3)

    def test_together(self):
        log = [("x", "hit"), ["y", "miss"], ("x", "hit"), ("y", "hit")]
        self.assertEqual(together(log, x=FAIR, y=FAIR), FAIR(("hit", "hit")) * FAIR(("miss", "hit")))
        self.assertEqual((together([]), together((), x=FAIR), together(log=[("a b", "hit")], **{"a b": FAIR})), (1, 1, Ratio(3, 2)))
        self.all_ratios([together([]), together(log, x=FAIR, y=FAIR)])
        for value in [*ANY_VALUES, RUNS]:
            self.refused(BadBet, {"part": "b"}, together, value, c=None, b=value, a=FAIR)
        for value in [value for value in ANY_VALUES if value not in ([], ())]:
            self.refused(BadLog, {"part": "log"}, together, value, x=FAIR)
        for value in ANY_VALUES:
            self.refused(BadLog, {"part": "log"}, together, [("z", "hit"), value])
        for pair in (("x",), ("x", "hit", 1), (1, "hit"), "xy", {"x": 1, "y": 2}):
            self.refused(BadLog, {"part": "log"}, together, [("x", "hit"), pair], x=FAIR)
        self.refused(NoStudy, {"name": "z"}, together, [("x", 5), ("z", 1), ("y", 1)], x=FAIR)
        self.refused(NoStudy, {"name": ""}, together, [("", 1)], x=FAIR)
        for value in ANY_VALUES:
            self.refused(NoSign, {"name": 7}, together, [("y", value), ("x", 7)], y=FAIR, x=FAIR)
            self.refused(NoSign, {"name": value}, together, [("y", value), ("x", "hit")], y=FAIR, x=FAIR)


class LeastCapitalTest(Case):
    def test_ordinary_ones(self):
        study = Study(RUNS, {"trial": EVEN})
        self.assertEqual(least_capital(study, FAIR).word, "ruined")
        self.assertEqual(least_capital(study, Bet(RUNS, {"s0": (Ratio(3, 2), HALF)})), Ring((), ("miss",), ("hit", "hit")))
        self.assertEqual(least_capital(study, Bet(RUNS, {})), Capital(1, {"s0": 1, "s1": 1}, ("hit", "hit")))
        self.assertEqual(least_capital(study=study, bet=Bet(RUNS, {"s0": (0, 1)})).word, "ruined")
        self.assertEqual(least_capital(study, Bet(RUNS, {"s0": (0, 1)})), Ruined(("hit", "hit")))
        # The miss at s1 makes capital 0 where lit can still come.
        self.assertEqual(least_capital(study, Bet(RUNS, {"s1": (1, 0)})), Ruined(("hit", "miss", "hit", "hit")))
        # No factor counts from which lit cannot come, nor those of signs without a chance.
        never = Study(RUNS, {"trial": Crowd.just(PAIR, (0, 1))})
        self.assertEqual(least_capital(never, FAIR), Never())
        only = Study(RUNS, {"trial": Crowd.just(PAIR, (1, 0))})
        self.assertEqual(least_capital(only, FAIR), Capital(3, {"s0": 3, "s1": 2}, ("hit", "hit")))
        race = Study(sooner(2, 2), {"trial": EVEN})
        self.assertEqual(least_capital(race, Bet(race.watch, {"s2": (0, 0)})).word, "ruined")
        dark = Study(Watch({"a": PAIR}, ["lit", "dark"], [("p", "a", ("lit", "q")), ("q", "a", ("q", "dark"))]), {"a": EVEN})
        bet = Bet(dark.watch, {"p": (2, 0), "q": (0, HALF)})
        self.assertEqual(least_capital(dark, bet), Capital(2, {"p": 2}, ("hit",)))
        self.assertEqual(purse_of(dark, Bet(dark.watch, {"p": (2, 0)})), {"p": HALF, "q": 0})
        self.assertEqual([bool(paper) for paper in (Never(), Ruined(()), Ring((), (), ()), Capital(1, {}, ()))], [False] * 3 + [True])

    def test_drawn_against_all_rows_and_rings(self):
        rng = rng_of(137)
        counts = {}
        for _ in range(500):
            study = drawn_study(rng, rng.randint(1, 4), 2, most=2)
            bet = drawn_bet(rng, study.watch, rng.choice([(0, HALF, 1, 2), (1, 1, HALF, 2, 3), (1, 2, Ratio(3, 2), Ratio(9, 10))]))
            word, table = bet_oracle.case(study, bet)
            paper = least_capital(study, bet)
            counts[word] = counts.get(word, 0) + 1
            self.assertEqual(paper.word, word)
            if word == "capital":
                self.assertEqual({state: number(value) for state, value in paper.table}, table)
                self.assertEqual((number(paper.number), bet(paper.row)), (table[study.watch.first], paper.number))
            self.assertTrue(bet_oracle.is_right(study, bet, paper))
            self.assertTrue(shows_capital(study, bet, paper))
        self.assertGreater(min(counts.values()), 20)
        self.assertEqual(len(counts), 4)

    def test_bent_papers(self):
        rng = rng_of(138)
        counts = {}
        for _ in range(300):
            study = drawn_study(rng, rng.randint(1, 3), 2, most=2)
            bet = drawn_bet(rng, study.watch)
            right = least_capital(study, bet)
            rows = [drawn_row(rng, study.watch, 4) for _ in range(3)]
            papers = [Never(), Ruined(rows[0]), Ring(*rows), Ring(rows[0][:1], rows[1][:1], rows[2]), Ring((), rows[1][:1], rows[2]),
                      *[bent_paper(rng, right) for _ in range(8 if right.parts else 0)]]
            for paper in papers:
                wanted = bet_oracle.is_right(study, bet, paper)
                self.assertIs(shows_capital(study, bet, paper), wanted)
                counts[paper.word, wanted] = counts.get((paper.word, wanted), 0) + 1
        self.assertEqual(len(counts), 8)
        self.assertGreater(min(counts.values()), 5)

    def test_values_of_any_kind(self):
        study, bet = Study(RUNS, {"trial": EVEN}), Bet(RUNS, {})
        for value in [*ANY_VALUES, Paper("never"), Denial("never"), Never()]:
            self.assertIs(shows_capital(study, bet, value), False)
            self.assertIs(shows_capital(study, bet, Ruined(value)), False)
            self.assertIs(shows_capital(study, FAIR, Ring(value, ["miss"], ["hit", "hit"])), value in ((), [], {}))
            self.assertIs(shows_capital(study, FAIR, Ring((), value, ["hit", "hit"])), False)
            self.assertIs(shows_capital(study, FAIR, Ring((), ["miss"], value)), False)
            self.assertIs(shows_capital(study, bet, Capital(value, {"s0": 1, "s1": 1}, ("hit", "hit"))), value == 1 and value is not True)
            self.assertIs(shows_capital(study, bet, Capital(1, value, ("hit", "hit"))), False)
            self.assertIs(shows_capital(study, bet, Capital(1, {"s0": value, "s1": 1}, ("hit", "hit"))), value == 1 and value is not True)
            self.assertIs(shows_capital(study, bet, Capital(1, {"s0": 1, "s1": 1}, value)), False)
        self.assertTrue(shows_capital(study, FAIR, Ring(("hit",), ("miss", "hit"), ("hit",))) is False)
        self.assertTrue(shows_capital(study=study, bet=FAIR, value=Ring(("miss",), ("miss", "miss"), ("hit", "hit"))))
        ruined = Bet(RUNS, {"s0": (0, 1)})
        self.assertTrue(shows_capital(study, ruined, Ruined(("miss", "hit", "hit"))))
        self.assertIs(shows_capital(study, ruined, Capital(0, {"s0": 0, "s1": 0}, ("hit", "hit"))), False)
        # Capitals too small at a state are no table of least ones, but keep what is told; too great ones do not.
        self.assertTrue(shows_capital(study, bet, Capital(1, {"s0": 1, "s1": 1}, ("miss", "hit", "hit"))))
        self.assertIs(shows_capital(study, bet, Capital(1, {"s0": 1, "s1": 2}, ("hit", "hit"))), False)
        self.assertIs(shows_capital(study, bet, Capital(1, {"s0": 1, "s1": 0}, ("hit", "hit"))), False)

    def test_errors_in_their_order(self):
        study = Study(RUNS, {"trial": EVEN})
        calls = [least_capital, purse_of, fault, lambda study, bet: shows_capital(study, bet, None)]
        for call in calls:
            for value in [*ANY_VALUES, RUNS]:
                self.refused(BadStudy, {"part": "study"}, call, value, value)
                self.refused(BadBet, {"part": "bet"}, call, study, value)
            self.refused(BadBet, {"part": "watch"}, call, study, Bet(in_a_row(1), {}))
        large = long_study(41)
        self.refused(BadBet, {"part": "watch"}, least_capital, large, FAIR)
        self.refused(TooMany, {"what": "states", "most": 40}, least_capital, large, Bet(large.watch, {}))
        self.refused(TooMany, {"what": "states", "most": 40}, purse_of, large, Bet(large.watch, {}))
        first, arm = large.watch.first, large.watch.arms[0][1]
        self.refused(Unfair, {"state": first, "corner": 0}, purse_of, large, Bet(large.watch, {first: [9] * len(arm)}))
        self.assertIsNone(fault(large, Bet(large.watch, {})))
        self.assertIs(shows_capital(large, Bet(large.watch, {}), Never()), False)
        self.assertEqual(len(least_capital(long_study(40), Bet(long_study(40).watch, {})).table), 40)


class LogTest(Case):
    def test_growing(self):
        study = Study(in_a_row(2), {"trial": Crowd(PAIR, [(HALF, HALF), (Ratio(1, 4), Ratio(3, 4)), (HALF, HALF)])})
        log = Log(study, "hit", "miss")
        self.assertEqual((log.study, log.seen, log.now, log.kept, log.chance), (study, ("hit", "miss"), "s0", (0, 1), Ratio(3, 8)))
        self.assertEqual((len(log), list(log)), (2, ["hit", "miss"]))
        self.assertIsNone(log.add("hit"))
        self.assertIsNone(log.add(sign="hit"))
        self.assertEqual((log.seen, log.now, log.kept, log.chance), (("hit", "miss", "hit", "hit"), "lit", (0, 1, 0, 0), Ratio(3, 32)))
        for value in [*ANY_VALUES, "hit"]:
            self.refused(Over, {"name": "lit"}, log.add, value)
        self.assertIsNone(log.back())
        self.assertEqual((log.seen, log.now, log.kept, log.chance), (("hit", "miss", "hit"), "s1", (0, 1, 0), Ratio(3, 16)))
        for value in [*ANY_VALUES, "s1"]:
            self.refused(NoSign, {"name": value}, log.add, value)
        self.assertEqual(log.seen, ("hit", "miss", "hit"))
        for _ in range(3):
            log.back()
        self.refused(Nothing, {}, log.back)
        self.assertEqual((log.seen, log.now, log.kept, log.chance, len(log)), ((), "s0", (), 1, 0))
        self.assertIsInstance(log.chance, Ratio)
        for value in [*ANY_VALUES, RUNS]:
            self.refused(BadStudy, {"part": "study"}, Log, value, "hit")
            self.refused(NoSign, {"name": value}, Log, study, "hit", value)
        self.refused(Over, {"name": "lit"}, Log, study, "hit", "hit", 5)
        self.assertEqual(Log(study=study).seen, ())

    def test_signs_without_a_chance(self):
        study = Study(Watch({"a": PAIR, "b": ("x", "y")}, ["lit", "off"], [("p", "a", ("q", "lit")), ("q", "b", ("p", "off"))]),
                      {"a": Crowd.just(PAIR, (0, 1)), "b": Crowd.between(("x", "y"), Ratio(1, 3), HALF)})
        log = Log(study, "hit", "x")
        self.assertEqual((log.now, log.kept, log.chance), ("p", (0, 1), 0))
        log.add("miss")
        self.assertEqual((log.now, log.kept, log.chance), ("lit", (0, 1, 0), 0))

    def test_drawn(self):
        rng = rng_of(139)
        for _ in range(80):
            study = drawn_study(rng, rng.randint(1, 4))
            row = drawn_row(rng, study.watch)
            log, place, kept, best = Log(study), study.watch.first, [], [1]
            for sign in row:
                at = list(study.watch.signs_of(place)).index(sign)
                shares = [number(corner[at]) for corner in dict(study.crowds)[study.watch.arm_of(place)].corners]
                kept.append(shares.index(max(shares)))
                best.append(best[-1] * max(shares))
                log.add(sign)
                place = study.watch.place(place, sign)
                self.assertEqual((log.now, log.kept, number(log.chance)), (place, tuple(kept), best[-1]))
            for many in range(len(row) - 1, -1, -1):
                log.back()
                self.assertEqual((log.seen, log.kept, number(log.chance)), (tuple(row[:many]), tuple(kept[:many]), best[many]))

    def test_study_of_a_row(self):
        study = Study(RUNS, {"trial": Crowd.between(PAIR, Ratio(1, 4), HALF)})
        told = row_study(study, ["hit", "miss", "hit"])
        self.assertEqual(str(told), "trial : hit miss / lit dark / r0 trial : r1 dark / r1 trial : dark r2 / r2 trial : lit dark "
                                    "| trial hit 1/4 miss 3/4 / hit 1/2 miss 1/2")
        self.assertEqual(greatest(told).number, Ratio(3, 16))
        rng = rng_of(140)
        for _ in range(80):
            study = drawn_study(rng, rng.randint(1, 4))
            row = drawn_row(rng, study.watch)
            found = row_study(study=study, row=tuple(row))
            place = study.watch.first
            for at, sign in enumerate(row):
                self.assertEqual(found.watch.arm_of(f"r{at}"), study.watch.arm_of(place))
                self.assertEqual(found.watch.places_of(f"r{at}"), tuple(
                    ("lit" if at + 1 == len(row) else f"r{at + 1}") if other == sign else "dark" for other in study.watch.signs_of(place)))
                place = study.watch.place(place, sign)
            self.assertEqual((len(found.watch), found.watch.ends), (len(row), ("lit", "dark")))
            self.assertEqual({arm: crowd.corners for arm, crowd in found.crowds},
                             {arm: dict(study.crowds)[arm].corners for arm, _ in found.crowds})
            chance = Log(study, *row).chance
            paper = greatest(found)
            self.assertEqual(paper.number, chance)
            if chance != 0:
                # The bet of the greatest table of the study of the row has 1 over its chance.
                self.assertEqual(bet_of(found, dict(paper.table))(row), Ratio(1).over(chance))

    def test_no_fair_bet_has_more(self):
        rng = rng_of(141)
        seen = 0
        while seen < 40:
            study = drawn_study(rng, rng.randint(1, 3))
            bet, row = drawn_bet(rng, study.watch, (0, HALF, 1, Ratio(3, 2), 2)), drawn_row(rng, study.watch)
            chance = Log(study, *row).chance
            if fault(study, bet) is None and chance != 0:
                seen += 1
                self.assertTrue((bet(row) * chance).compared(1) <= 0)

    def test_rows_that_are_refused(self):
        study = Study(in_a_row(3), {"trial": EVEN})
        for value in [*ANY_VALUES, RUNS]:
            self.refused(BadStudy, {"part": "study"}, row_study, value, value)
        for value in [value for value in ANY_VALUES if not isinstance(value, (list, tuple))]:
            self.refused(BadWatch, {"part": "row"}, row_study, study, value)
        for value in ANY_VALUES:
            self.refused(NoSign, {"name": value}, row_study, study, ["hit", value])
        for value in ([], ()):
            self.refused(BadLog, {"part": "row"}, row_study, study, value)
        self.assertEqual(len(row_study(study, ["miss"] * 200).watch), 200)
        self.refused(TooMany, {"what": "row", "most": 200}, row_study, study, ["miss"] * 201)
        self.refused(NoSign, {"name": 5}, row_study, study, ["miss"] * 201 + [5])


class MeanTest(Case):
    def test_fair_bets_do_not_grow_on_the_mean(self):
        rng = rng_of(142)
        for _ in range(40):
            study = drawn_study(rng, rng.randint(1, 3))
            bet = bet_of(study, dict(greatest(study).table))
            worths = {end: number(Ratio(int(end == "lit"))) for end in study.watch.ends}
            for state in study.states:
                told = dict(zip(study.watch.signs_of(state), dict(bet.factors)[state]))
                for index, corner in enumerate(study.corners_of(state)):
                    total = sum(number(chance) * number(told[sign]) for sign, chance in zip(told, corner))
                    table = {place: number(value) for place, value in greatest(study).table}
                    if table[state]:
                        self.assertEqual(total * table[state], mean(moves(study, state)[index], table, worths))


if __name__ == "__main__":
    unittest.main()

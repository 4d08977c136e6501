import unittest

from peekproof.boards import AllOf, AnyOf, AtLeast, Board, Named, Weighing
from peekproof.check_boards import shows_lit, shows_tied, shows_wrongest
from peekproof.crowds import Crowd
from peekproof.errors import BadBoard, BadNumbers, BadStudy, BadWatch, NoStudy, TooMany, UnlikeArms, UnlikeSigns, Unsure
from peekproof.forms import LitAtLeast, LitAtMost, LitWithin, Wrongest, greatest_lit, least_lit, lit_within, pull, strong, wrongest
from peekproof.greatest import Greatest, greatest, is_purse
from peekproof.joined import all_of, any_of
from peekproof.least import Least, least
from peekproof.made import in_a_row, in_all, sooner
from peekproof.one_row import on_one
from peekproof.papers import Paper
from peekproof.ratios import Ratio
from peekproof.studies import Study
from peekproof.sure import sure
from peekproof.ties import Tied, tied
from peekproof.watches import Watch
from tests import board_oracle
from tests.board_oracle import drawn_board, is_lit
from tests.paper_oracle import bent, is_greatest, is_least, numbers_of, table
from tests.study_oracle import number
from tests.support import ANY_VALUES, Case, drawn_study, drawn_watch, rng_of
from tests.test_boards import MANY, drawn_ratios
from tests.test_solved import QUARTER, TURN, long_study

HALF = Ratio(1, 2)
X, Y, Z = Named("x"), Named("y"), Named("z")
LOOSE = Study(sooner(2, 2), {"trial": Crowd.between(("hit", "miss"), 0, 1)})
THIRD = {"x": HALF, "y": Ratio(1, 3), "z": Ratio(1, 5)}


def drawn_studies(rng, board, want_sure=False):
    studies = {}
    for name in board.names:
        study = drawn_study(rng, rng.randint(1, 3), 2, most=3)
        while want_sure and not sure(study):
            study = drawn_study(rng, rng.randint(1, 3), 2, most=3)
        studies[name] = study
    return studies


class ClaimTest(Case):
    def test_pull(self):
        rng = rng_of(91)
        for _ in range(80):
            board = drawn_board(rng, rng.randint(1, 6))
            ratios = drawn_ratios(rng, board)
            for name in board.names:
                found = pull(board, ratios, name)
                self.assertEqual(number(found), board_oracle.form(board, {**ratios, name: 1})
                                 - board_oracle.form(board, {**ratios, name: 0}))
        self.assertEqual(pull(board=X, ratios={"x": 0}, name="x"), 1)

    def test_strong(self):
        two = AtLeast(2, X, Y, Z)
        self.assertEqual([strong(two, THIRD), strong(two, THIRD, "x", "y"), strong(two, THIRD, "z", "z")],
                         [Ratio(4, 15), 1, Ratio(2, 3)])
        rng = rng_of(92)
        for _ in range(60):
            board = drawn_board(rng, rng.randint(1, 6))
            ratios = drawn_ratios(rng, board)
            effects = [name for name in board.names if rng.randrange(2)]
            self.assertEqual(number(strong(board, ratios, *effects)),
                             board_oracle.form(board, {**ratios, **{name: 1 for name in effects}}))

    def test_wrongest(self):
        two = AtLeast(2, X, Y, Z)
        self.assertEqual(wrongest(two, THIRD), Wrongest(Ratio(2, 3), ("z",)))
        self.assertEqual(wrongest(AnyOf(X, Y), THIRD), Wrongest(Ratio(2, 3), ()))
        self.assertEqual(wrongest(AllOf(Y, X), THIRD), Wrongest(HALF, ("y",)))
        rng = rng_of(93)
        for _ in range(150):
            board = drawn_board(rng, rng.randint(1, 7))
            ratios = drawn_ratios(rng, board)
            paper = wrongest(board, ratios)
            self.assertEqual(number(paper.number), board_oracle.wrongest(board, ratios))
            self.assertFalse(is_lit(board, paper.effects))
            self.assertEqual(list(paper.effects), [name for name in board.names if name in paper.effects])
            self.assertEqual(strong(board, ratios, *paper.effects), paper.number)
            self.assertTrue(shows_wrongest(board, ratios, paper))
            self.assertEqual(wrongest(board, ratios), paper)

    def test_most_branches(self):
        ten = Weighing(17, *[(MANY[at], at % 4 + 1) for at in range(10)])
        eleven = Weighing(17, *[(MANY[at], at % 4 + 1) for at in range(11)])
        ratios = {f"n{at}": Ratio(at + 1, 80) for at in range(60)}
        self.assertTrue(shows_wrongest(ten, ratios, wrongest(ten, ratios)))
        for board in (eleven, AnyOf(X, AllOf(eleven))):
            for call in (wrongest, lambda board, ratios: shows_wrongest(board, ratios, 5)):
                self.refused(TooMany, {"what": "branches", "most": 10}, call, board, {**ratios, "x": 0})
                self.refused(BadNumbers, {"part": "n10"}, call, board, {**ratios, "x": 0, "n10": 2})
        self.assertEqual(wrongest(AtLeast(1, *MANY[:60]), ratios).effects, ())

    def test_errors(self):
        for call in (lambda board, ratios: pull(board, ratios, "q"), lambda board, ratios: strong(board, ratios, "q"), wrongest,
                     lambda board, ratios: shows_wrongest(board, ratios, None)):
            for value in [*ANY_VALUES, "x"]:
                self.refused(BadBoard, {"part": "board"}, call, value, value)
            for value in [value for value in ANY_VALUES if not isinstance(value, dict)]:
                self.refused(BadNumbers, {"part": "ratios"}, call, X, value)
            self.refused(BadNumbers, {"part": "y"}, call, AnyOf(X, Y), {"x": 0, "y": 2})
        for value in [*[value for value in ANY_VALUES if value != "x"], "y"]:
            self.refused(NoStudy, {"name": value}, pull, X, {"x": 1}, value)
            self.refused(NoStudy, {"name": value}, strong, X, {"x": 1}, "x", value, "q")

    def test_effects_in_any_order_are_no_paper(self):
        board, ratios = AtLeast(3, X, Y, Z), {"x": HALF, "y": HALF, "z": HALF}
        self.assertTrue(shows_wrongest(board, ratios, Wrongest(HALF, ("x", "y"))))
        self.assertTrue(shows_wrongest(board, ratios, Wrongest(HALF, ["y", "z"])))
        for number_told, effects in ((HALF, ("y", "x")), (HALF, ("x", "x", "y")), (1, ("x", "y", "z")), (HALF, ("x",)), (HALF, ()),
                                     (Ratio(1, 4), ("x",)), (HALF, ("x", "q")), (HALF, "xy"), (True, ("x", "y")), (1, ("x", "y")),
                                     (HALF, None), (None, ("x", "y")), (HALF, ("x", ["y"])), (HALF, {"x": "y"})):
            self.assertIs(shows_wrongest(board, ratios, Wrongest(number_told, effects)), False)
        for value in [*ANY_VALUES, Paper("wrongest", HALF, ("x", "y"))]:
            self.assertIs(shows_wrongest(board, ratios, value), False)
        sure_x = AnyOf(X)
        self.assertTrue(shows_wrongest(sure_x, {"x": 1}, Wrongest(1, ())))
        self.assertIs(shows_wrongest(sure_x, {"x": 1}, Wrongest(True, ())), False)
        self.assertIs(shows_wrongest(sure_x, {"x": 1}, Wrongest(1, ("x",))), False)


class LitTest(Case):
    def test_greatest_and_least(self):
        rng = rng_of(94)
        for _ in range(60):
            board = drawn_board(rng, rng.randint(1, 4))
            studies = drawn_studies(rng, board, True)
            most, few = greatest_lit(board, {**studies, "other": 5}), least_lit(board, studies)
            self.assertEqual([name for name, _ in most.papers], sorted(board.names))
            for name, paper in most.papers:
                self.assertEqual(paper, greatest(studies[name]))
            for name, paper in few.papers:
                self.assertEqual(paper, least(studies[name]))
            self.assertEqual(most.number, board({name: paper.number for name, paper in most.papers}))
            self.assertEqual(few.number, board({name: paper.number for name, paper in few.papers}))
            self.assertTrue(shows_lit(board, studies, most) and shows_lit(board, {**studies, "other": 5}, few))
            self.assertIsInstance(most, LitAtMost)
            self.assertIsInstance(few, LitAtLeast)

    def test_a_missing_study_ahead_of_those_that_are_refused(self):
        board = AllOf(AnyOf(X, Y), Z)
        large = long_study(41)
        for call in (greatest_lit, least_lit):
            self.refused(NoStudy, {"name": "y"}, call, board, {"x": large, "z": 5})
            self.refused(NoStudy, {"name": "x"}, call, board, {"x": None, "y": large})
            self.refused(NoStudy, {"name": "y"}, call, board, {"x": QUARTER, "z": large})
            self.refused(NoStudy, {"name": "z"}, call, board, {"x": large, "y": LOOSE})
            self.refused(NoStudy, {"name": "z"}, call, board, {"x": LOOSE, "y": large, "z": TURN})
            self.refused(NoStudy, {"name": "z"}, call, board, {"x": QUARTER, "y": QUARTER, ("z",): LOOSE})

    def test_the_first_name_at_fault_counts(self):
        board = AllOf(AnyOf(X, Y), Z)
        large = long_study(41)
        for call in (greatest_lit, least_lit):
            self.refused(TooMany, {"what": "states", "most": 40}, call, board, {"x": QUARTER, "y": large, "z": LOOSE})
        looser = Study(sooner(3, 3), dict(LOOSE.crowds))
        self.refused(Unsure, {"trap": sure(LOOSE)}, least_lit, board, {"x": LOOSE, "y": large, "z": QUARTER})
        self.refused(Unsure, {"trap": sure(LOOSE)}, least_lit, board, {"x": QUARTER, "y": LOOSE, "z": looser})
        self.refused(TooMany, {"what": "states", "most": 40}, least_lit, board, {"x": large, "y": LOOSE, "z": QUARTER})
        self.assertEqual(greatest_lit(board, {"x": LOOSE, "y": QUARTER, "z": LOOSE}).number, 1)

    def test_errors(self):
        calls = [greatest_lit, least_lit, lambda board, studies: lit_within(board, studies, 5),
                 lambda board, studies: shows_lit(board, studies, 5)]
        for call in calls:
            for value in [*ANY_VALUES, "x", QUARTER]:
                self.refused(BadBoard, {"part": "board"}, call, value, value)
            for value in [value for value in ANY_VALUES if not isinstance(value, dict)]:
                self.refused(BadStudy, {"part": "studies"}, call, X, value)
            for value in [*ANY_VALUES, TURN]:
                self.refused(NoStudy, {"name": "y"}, call, AnyOf(X, Y, Z), {"x": QUARTER, "y": value})
        self.refused(NoStudy, {"name": "y"}, shows_lit, AnyOf(X, Y), {"x": long_study(41)}, None)
        self.assertIs(shows_lit(AnyOf(X, Y), {"x": long_study(41), "y": LOOSE}, None), False)

    def test_lit_within(self):
        board = AllOf(X, Y)
        studies = {"x": QUARTER, "y": LOOSE}
        purses = {"x": {"one": Ratio(5, 8), "two": Ratio(3, 4)}, "y": {state: 1 for state in LOOSE}}
        found = lit_within(board, studies, {**purses, "z": 5})
        self.assertEqual(found, LitWithin(Ratio(5, 8), purses))
        self.assertTrue(shows_lit(board, studies, found))
        self.all_ratios([value for _, told in found.tables for _, value in told])
        for value in [value for value in ANY_VALUES if not isinstance(value, dict)]:
            self.refused(BadNumbers, {"part": "tables"}, lit_within, board, studies, value)
        for value in [*ANY_VALUES, {"one": HALF, "two": HALF}, {"one": 2, "two": 1}, {"one": 1}, {"one": 1, "two": True},
                      {"one": 1, "two": Ratio(9, 8)}]:
            self.refused(BadNumbers, {"part": "x"}, lit_within, board, studies, {"x": value, "y": None})
        self.refused(BadNumbers, {"part": "y"}, lit_within, board, studies, {"x": purses["x"]})
        large = long_study(41)
        self.assertEqual(lit_within(X, {"x": large}, {"x": {state: 1 for state in large}}).number, 1)
        self.refused(NoStudy, {"name": "y"}, lit_within, board, {"x": QUARTER}, 5)

    def test_bent_papers(self):
        rng = rng_of(95)
        counts = {(kind, shown): 0 for kind in (LitAtMost, LitAtLeast, LitWithin) for shown in (True, False)}
        for _ in range(120):
            board = drawn_board(rng, rng.randint(1, 2))
            studies = drawn_studies(rng, board, True)
            tables = {name: dict(greatest(study).table) for name, study in studies.items()}
            for paper in (greatest_lit(board, studies), least_lit(board, studies), lit_within(board, studies, tables)):
                self.assertTrue(shows_lit(board, studies, paper))
                for _ in range(6):
                    parts = list(paper.parts)
                    at = rng.randrange(2)
                    parts[at] = bent(rng, parts[at])
                    if rng.randrange(3) == 0 and parts[1] and isinstance(parts[1], tuple):
                        parts[1] = self.bent_within(rng, parts[1])
                    other = paper.__class__(*parts)
                    wanted = self.is_right(board, studies, other)
                    self.assertIs(shows_lit(board, studies, other), wanted)
                    counts[type(paper), wanted] += 1
        self.assertTrue(min(counts.values()) > 10, counts)

    def bent_within(self, rng, part):
        pair = rng.choice(part)
        if not isinstance(pair, tuple) or len(pair) != 2 or not isinstance(pair[1], Paper):
            return part
        parts = list(pair[1].parts)
        at = rng.randrange(4)
        parts[at] = bent(rng, parts[at])
        made = rng.choice([pair[1].__class__, pair[1].__class__, Greatest, Least])(*parts)
        return tuple((pair[0], made) if other is pair else other for other in part)

    def is_right(self, board, studies, paper):
        told = table(paper.parts[1])
        if told is None or set(told) != set(board.names) or number(paper.number) is None:
            return False
        if isinstance(paper, LitWithin):
            for name, part in told.items():
                purse = numbers_of(part, studies[name].states)
                if purse is None or max(purse.values()) > 1 or not is_purse(studies[name], dict(part)):
                    return False
            firsts = {name: dict(part)[studies[name].watch.first] for name, part in told.items()}
            return number(paper.number) >= board_oracle.form(board, firsts)
        kind, is_right = (Greatest, is_greatest) if isinstance(paper, LitAtMost) else (Least, is_least)
        for name, part in told.items():
            if type(part) is not kind or not is_right(studies[name], part):
                return False
        return number(paper.number) == board_oracle.form(board, {name: part.number for name, part in told.items()})

    def test_any_values(self):
        board, studies = AnyOf(X, Y), {"x": QUARTER, "y": QUARTER}
        for value in ANY_VALUES:
            self.assertIs(shows_lit(board, studies, value), False)
            for kind in (LitAtMost, LitAtLeast, LitWithin):
                self.assertIs(shows_lit(board, studies, kind(1, value)), False)
                self.assertIs(shows_lit(board, studies, kind(1, {"x": value, "y": value})), False)
                self.assertIs(shows_lit(board, studies, kind(value, {"x": greatest(QUARTER), "y": least(QUARTER)})), False)
        right = greatest_lit(board, studies)
        self.assertIs(shows_lit(board, studies, LitAtLeast(*right.parts)), False)
        self.assertIs(shows_lit(board, studies, Paper("litatmost", *right.parts)), False)
        plain = {name: Paper("greatest", *paper.parts) for name, paper in right.papers}
        self.assertIs(shows_lit(board, studies, LitAtMost(right.number, plain)), False)
        self.assertEqual((right.word, least_lit(board, studies).word), ("litatmost", "litatleast"))
        self.assertEqual(LitWithin(1, {}).word, "litwithin")


class OneRowTest(Case):
    def test_small_boards(self):
        one, other = in_all(2), in_a_row(2)
        self.assertEqual(on_one(AnyOf(X, Y), {"x": one, "y": other}), any_of(one, other))
        self.assertEqual(on_one(AllOf(X, Y), {"y": other, "x": one, "q": 5}), all_of(one, other))
        self.assertEqual(on_one(board=X, watches={"x": one}).ends, ("lit", "dark"))
        self.assertEqual(str(on_one(X, {"x": in_all(1)})), "trial : hit miss / lit dark / s0 trial : lit s0")

    def test_drawn_boards(self):
        rng = rng_of(96)
        arms = {"coin": ("hit", "miss"), "die": ("a", "b", "c")}
        done = 0
        for _ in range(200):
            board = drawn_board(rng, rng.randint(1, 4))
            kinds = rng.choice([arms, {"coin": arms["coin"]}, {"coin": arms["coin"]}])
            watches = {name: drawn_watch(rng, rng.randint(1, 3), kinds, ("dim", "lit", "dark")[:rng.randint(2, 3)])
                       for name in board.names}
            wanted = self.walked(board, watches)
            if isinstance(wanted, tuple):
                self.refused(UnlikeArms, {"one": wanted[0], "other": wanted[1]}, on_one, board, watches)
                continue
            done += 1
            self.assertEqual(on_one(board, watches), wanted)
        self.assertGreater(done, 50)

    def walked(self, board, watches):
        """The watch that the document tells, walked apart; the labels of an UnlikeArms if there is one."""
        met = [tuple(watches[name].first for name in board.names)]
        lines, signs = [], {}
        for standing in met:
            running = [(name, place) for name, place in zip(board.names, standing) if place in watches[name]]
            asked = [watches[name].arm_of(place) for name, place in running]
            for (name, place), arm in zip(running, asked):
                if arm != asked[0]:
                    return running[0][1], place
            name, place = running[0]
            signs[asked[0]] = watches[name].signs_of(place)
            places = []
            for sign in signs[asked[0]]:
                after = tuple(watches[name].place(place, sign) if place in watches[name] else place
                              for name, place in zip(board.names, standing))
                lit = [name for name, place in zip(board.names, after) if place == "lit"]
                dark = [name for name, place in zip(board.names, after) if place != "lit" and place not in watches[name]]
                left = board_oracle.rest(board, lit, dark)
                if left is True or left is False:
                    places.append("lit" if left else "dark")
                    continue
                if after not in met:
                    met.append(after)
                places.append(f"s{met.index(after)}")
            lines.append((f"s{len(lines)}", asked[0], places))
        return Watch(signs, ("lit", "dark"), lines)

    def test_errors(self):
        coin = Watch({"coin": ("hit", "miss")}, ["lit"], [("a", "coin", ("lit", "a"))])
        turned = Watch({"coin": ("miss", "hit")}, ["lit"], [("a", "coin", ("lit", "a"))])
        for value in [*ANY_VALUES, "x", coin]:
            self.refused(BadBoard, {"part": "board"}, on_one, value, value)
        for value in [value for value in ANY_VALUES if not isinstance(value, dict)]:
            self.refused(BadWatch, {"part": "watches"}, on_one, X, value)
        for value in [*ANY_VALUES, QUARTER]:
            self.refused(NoStudy, {"name": "y"}, on_one, AnyOf(X, Y), {"x": coin, "y": value})
        self.refused(NoStudy, {"name": "z"}, on_one, AnyOf(X, Y, Z), {"x": coin, "y": turned})
        self.refused(UnlikeSigns, {"label": "coin"}, on_one, AnyOf(X, Y), {"x": coin, "y": turned})
        self.refused(TooMany, {"what": "states", "most": 200}, on_one, AllOf(X, Y), {"x": in_all(15), "y": sooner(30, 30)})
        self.assertEqual(len(on_one(AnyOf(*MANY[:60]), {f"n{at}": in_all(2) for at in range(60)})), 2)

    def test_the_greatest_number_on_one_row(self):
        crowd = {"trial": Crowd.between(("hit", "miss"), Ratio(1, 4), HALF)}
        watch = on_one(AtLeast(2, X, Y, Z), {"x": in_a_row(2), "y": sooner(2, 1), "z": sooner(1, 2)})
        found = greatest(Study(watch, crowd))
        self.assertTrue(0 < number(found.number) <= 1)


class TiedTest(Case):
    def formula(self, many, ratios):
        order = sorted(number(ratio) for ratio in ratios.values())
        return min([1, *[sum(order[:len(order) - left]) / (many - left) for left in range(many)]])

    def is_right(self, many, ratios, paper):
        names = sorted(ratios)
        if number(paper.number) != self.formula(many, ratios):
            return False
        if paper.weights is None:
            if paper.number != 1 or paper.number is True:
                return False
        else:
            weights = numbers_of(paper.weights, names)
            if weights is None or sum(sorted(weights.values())[:many]) < 1:
                return False
            if sum(weights[name] * number(ratios[name]) for name in names) != number(paper.number):
                return False
        return self.are_lots(many, ratios, paper)

    def are_lots(self, many, ratios, paper):
        lots = paper.lots
        if not isinstance(lots, tuple) or len(lots) > len(ratios) + 1:
            return False
        for lot in lots:
            if not isinstance(lot, tuple) or len(lot) != 2 or not isinstance(lot[0], tuple):
                return False
            if not all(isinstance(name, str) and name in ratios for name in lot[0]) or list(lot[0]) != sorted(set(lot[0])):
                return False
            if number(lot[1]) is None or number(lot[1]) <= 0:
                return False
        if sum(number(share) for _, share in lots) != 1:
            return False
        if any(sum(number(share) for names, share in lots if name in names) > number(ratios[name]) for name in ratios):
            return False
        return sum(number(share) for names, share in lots if len(names) >= many) == number(paper.number)

    def test_plain_cases(self):
        self.assertEqual(tied(1, THIRD).number, 1)
        self.assertEqual(tied(2, THIRD), Tied(Ratio(31, 60), {name: HALF for name in "xyz"}, tied(2, THIRD).lots))
        self.assertEqual(tied(3, THIRD).number, Ratio(1, 5))
        self.assertEqual(tied(many=1, ratios={"x": 0}), Tied(0, {"x": 1}, [((), 1)]))
        self.assertEqual(tied(1, {"x": 1}).number, 1)
        self.assertEqual(tied(2, {"x": 1, "y": 1, "z": 1}).number, 1)

    def test_drawn_ties(self):
        rng = rng_of(97)
        ones = 0
        for _ in range(300):
            board = drawn_board(rng, rng.randint(1, 7))
            ratios = drawn_ratios(rng, board)
            many = rng.randint(1, len(ratios))
            paper = tied(many, ratios)
            self.assertTrue(self.is_right(many, ratios, paper))
            self.assertTrue(shows_tied(many, ratios, paper))
            self.all_ratios([paper.number, *dict(paper.weights or ()).values(), *[share for _, share in paper.lots]])
            self.assertEqual(tied(many, ratios), paper)
            ones += paper.weights is None
        self.assertGreater(ones, 20)

    def test_bent_papers(self):
        rng = rng_of(98)
        counts = {True: 0, False: 0}
        for _ in range(200):
            ratios = drawn_ratios(rng, drawn_board(rng, rng.randint(1, 4)))
            many = rng.randint(1, len(ratios))
            paper = tied(many, ratios)
            for _ in range(10):
                parts = list(paper.parts)
                at = rng.randrange(3)
                parts[at] = bent(rng, parts[at])
                other = Tied(*parts)
                wanted = self.is_right(many, ratios, other)
                self.assertIs(shows_tied(many, ratios, other), wanted)
                counts[wanted] += 1
        self.assertTrue(min(counts.values()) > 20, counts)

    def test_wrong_papers(self):
        ratios = {"x": HALF, "y": HALF}
        right = [(("x", "y"), HALF), ((), HALF)]
        self.assertTrue(shows_tied(2, ratios, Tied(HALF, {"x": HALF, "y": HALF}, right)))
        self.assertTrue(shows_tied(2, ratios, Tied(HALF, {"x": 0, "y": 1}, right)))
        for lots in ([(("y", "x"), HALF), ((), HALF)], [(("x", "x", "y"), HALF), ((), HALF)], [(("x", "y"), HALF), ((), HALF), ((), 0)],
                     [(("x", "y"), HALF)], [(("x", "y"), Ratio(1, 4))] * 2 + [((), Ratio(1, 4))] * 2, [(("x", "y"), 1)], [],
                     [(("x", "q"), HALF), ((), HALF)], [(("x", "y"), HALF, 1), ((), HALF)], None, 5, [(None, HALF), ((), HALF)]):
            self.assertIs(shows_tied(2, ratios, Tied(HALF, {"x": HALF, "y": HALF}, lots)), False)
        for weights in (None, {"x": HALF}, {"x": HALF, "y": Ratio(1, 3)}, {"x": 1, "y": 1}, {"x": -1, "y": 2}, {"x": True, "y": 0}, ()):
            self.assertIs(shows_tied(2, ratios, Tied(HALF, weights, right)), False)
        self.assertTrue(shows_tied(1, ratios, Tied(1, None, [(("x",), HALF), (("y",), HALF)])))
        self.assertTrue(shows_tied(1, ratios, Tied(1, {"x": 1, "y": 1}, [(("x",), HALF), (("y",), HALF)])))
        self.assertIs(shows_tied(1, ratios, Tied(True, None, [(("x",), HALF), (("y",), HALF)])), False)
        for value in [*ANY_VALUES, Paper("tied", HALF, {"x": HALF, "y": HALF}, right)]:
            self.assertIs(shows_tied(2, ratios, value), False)

    def test_errors_in_their_order(self):
        sixty = {f"n{at}": Ratio(1, at + 2) for at in range(60)}
        for call in (tied, lambda many, ratios: shows_tied(many, ratios, None)):
            for value in [*ANY_VALUES, {"x": 2}, {"x": -1}, {"x": True}, {"X": 1}, {"a.b": 1}, {5: 1}, {"x": 1, "y": None}]:
                if value != {"x": 1}:
                    self.refused(BadNumbers, {"part": "ratios"}, call, value, value)
            self.refused(TooMany, {"what": "names", "most": 60}, call, None, {**sixty, "x": 1})
            for value in [*[value for value in ANY_VALUES if value != 1 or value is True], 61]:
                self.refused(BadNumbers, {"part": "many"}, call, value, sixty)
            self.refused(BadNumbers, {"part": "many"}, call, 2, {"x": 1})
        for many in (1, 30, 60):
            self.assertTrue(shows_tied(many, sixty, tied(many, sixty)))


if __name__ == "__main__":
    unittest.main()

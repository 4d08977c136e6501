import types
import unittest

from peekproof.boards import AllOf, AnyOf, Board, Named
from peekproof.costs import Costs
from peekproof.crowds import Crowd
from peekproof.dearest import dearest
from peekproof.errors import (BadBoard, BadHall, BadStory, BadStudy, NoSign, NoState, NoStudy, Nothing, Over, PeekError, Refuted, TooMany,
                              Twice, Unsure)
from peekproof.greatest import greatest
from peekproof.halls import Hall, begun
from peekproof.late import Late
from peekproof.lost import Lost
from peekproof.made import in_a_row, sooner
from peekproof.ratios import Ratio
from peekproof.stories import Story
from peekproof.studies import Study
from peekproof.sure import sure
from peekproof.trials import Trial
from peekproof.watches import Watch
from tests.board_oracle import drawn_board
from tests.hall_oracle import Model, least_lit, lit_names, most_lit
from tests.study_oracle import moves, number
from tests.support import ANY_VALUES, Case, drawn_study, rng_of
from tests.test_handled import ahead_study
from tests.test_solved import long_study

HALF = Ratio(1, 2)
PAIR = ("hit", "miss")
X, Y, Z = Named("x"), Named("y"), Named("z")
STUDY = Study.read("coin : hit miss / lit dark / one coin : two dark / two coin : lit dark | coin hit 1/4 miss 3/4 / hit 3/4 miss 1/4")
LOOSE = Study(sooner(2, 2), {"trial": Crowd.between(PAIR, 0, 1)})


def two():
    return Hall([("x", STUDY), ("y", STUDY)], AnyOf(X, Y))


def all_of(hall):
    """Everything that a hall tells."""
    told = [hall.fear, hall.peak, hall.is_lit, hall.story, hall.board, list(hall), hall.likely(), list(hall.moments())]
    told += [(hall.study_of(name), hall.place(name), hall.runs(name), hall.choices(name)) for name in hall]
    return told


def drawn_hall(rng, kind=ahead_study, most=3):
    names = ["x", "y", "z"][:rng.randint(1, most)]
    studies = [(name, kind(rng)) for name in names]
    some = rng.sample(names, rng.randint(1, len(names)))
    return studies, drawn_board_of(rng, some)


def drawn_board_of(rng, names):
    board = drawn_board(rng, len(names))
    words = str(board).split(" ")
    return Board.read(" ".join(names[int(word[1:])] if word[0] == "n" and word[1:].isdigit() else word for word in words))


def random_step(rng, hall):
    name = rng.choice(list(hall))
    if not hall.runs(name):
        return None
    return (name, None) if rng.randrange(6) == 0 else (name, rng.choice(hall.choices(name)))


class HallTest(Case):
    def test_example(self):
        study = Study.read("coin : hit miss / lit dark / one coin : two dark / two coin : lit dark | coin hit 1/4 miss 3/4 / hit 3/4 miss 1/4")
        hall = Hall([("x", study), ("y", study)], Board.read("( any x y )"))
        self.assertEqual([str(hall.fear), str(hall.hope()), hall.see("x", "hit"), str(hall.fear)],
                         ["207/256", "31/256", "two", "57/64"])

    def test_parts(self):
        lost = Lost(STUDY, 1)
        hall = Hall(board=AnyOf(X, Z), studies=(["x", STUDY], ("z", lost), ("y", LOOSE)))
        self.assertEqual((len(hall), list(hall), "z" in hall, "q" in hall), (3, ["x", "z", "y"], True, False))
        self.assertIs(hall.study_of("z"), lost)
        self.assertEqual((hall.place("z"), hall.place(name="x"), hall.choices("y"), hall.runs("x")), ("one.l1", "one", PAIR, True))
        self.assertEqual((hall.fear, hall.peak, hall.is_lit, hall.story, hall.board), (hall.peak, hall.fear, False, Story(), AnyOf(X, Z)))
        self.assertIsInstance(hall.fear, Ratio)
        for value in ANY_VALUES:
            if value != "x":
                self.assertIs(value in hall, False)
                for call in (hall.study_of, hall.place, hall.runs, hall.choices, hall.stop, lambda name: hall.see(name, "hit")):
                    self.refused(NoStudy, {"name": value}, call, value)
        self.assertEqual(hall.see("z", "hit.lost"), "one.l0")
        self.assertEqual(hall.choices("z"), PAIR)
        self.assertTrue(hall == hall and not hall != hall)
        self.assertFalse(hall == hall.twin() or hall == Hall([("x", STUDY)], X) or hall == 5)

    def test_trials_and_stops(self):
        hall = two()
        self.assertEqual(hall.see(name="x", sign="hit"), "two")
        self.assertEqual(hall.see("y", "miss"), "dark")
        self.assertEqual((hall.runs("y"), hall.choices("y"), hall.fear, hall.peak), (False, (), Ratio(3, 4), Ratio(57, 64)))
        self.assertEqual(hall.story, Story(("x", "hit"), ("y", "miss")))
        self.assertEqual(hall.see("x", "hit"), "lit")
        self.assertEqual((hall.fear, hall.is_lit, hall.hope(), hall.likely(), hall.lasting()), (1, True, 1, Ratio(27, 64), 0))
        stopped = two()
        self.assertIsNone(stopped.stop(name="x"))
        self.assertEqual((stopped.place("x"), stopped.runs("x"), stopped.choices("x"), stopped.fear), ("one", False, (), Ratio(9, 16)))
        stopped.stop("y")
        self.assertEqual((stopped.fear, stopped.hope(), stopped.is_lit, stopped.likely(), stopped.lasting()), (0, 0, False, 1, 0))
        self.assertEqual(str(stopped.story), "x - y -")
        self.all_ratios([stopped.fear, stopped.hope(), stopped.likely(), stopped.lasting(), hall.fear, hall.hope()])

    def test_bad_halls(self):
        for value in [*ANY_VALUES, {"x": STUDY}, [("x",)], [("x", STUDY, 1)], [("a.b", STUDY)], [("x", STUDY.watch)], [("X", STUDY)]]:
            self.refused(BadHall, {"part": "studies"}, Hall, value, value)
        for value in ANY_VALUES:
            self.refused(BadHall, {"part": "studies"}, Hall, [("x", STUDY), value], X)
            self.refused(BadHall, {"part": "studies"}, Hall, [("x", STUDY), ("y", value)], X)
            self.refused(BadBoard, {"part": "board"}, Hall, [("x", STUDY), ("x", STUDY)], value)
        large = long_study(41)
        self.refused(Twice, {"name": "y"}, Hall, [("x", STUDY), ("y", STUDY), ("y", large), ("x", STUDY)], Z)
        self.refused(NoStudy, {"name": "z"}, Hall, [("x", large)] * 1, AllOf(X, Z, Y))
        many = [(f"n{at}", STUDY) for at in range(61)]
        self.assertEqual(len(Hall(many[:60], Named("n0"))), 60)
        self.refused(TooMany, {"what": "studies", "most": 60}, Hall, [*many, ("x", large)], Named("n0"))
        self.refused(NoStudy, {"name": "x"}, Hall, many, X)
        # Each study is solved, also one that the board does not name.
        self.refused(TooMany, {"what": "states", "most": 40}, Hall, [("x", STUDY), ("y", large)], X)
        self.assertEqual(len(Hall([("x", long_study(40))], X)), 1)

    def test_what_is_refused(self):
        only = Study(in_a_row(2), {"trial": Crowd.just(PAIR, (1, 0))})
        hall = Hall([("x", STUDY), ("o", only)], X)
        before = all_of(hall)
        for value in [*ANY_VALUES, "sale"]:
            self.refused(NoSign, {"name": value}, hall.see, "x", value)
        self.refused(Refuted, {"name": "o", "label": "miss"}, hall.see, "o", "miss")
        self.refused(NoStudy, {"name": "q"}, hall.see, "q", None)
        self.refused(Nothing, {}, hall.back)
        self.refused(Nothing, {}, hall.again)
        self.assertEqual(all_of(hall), before)
        hall.see("x", "miss")
        hall.stop("o")
        for value in ANY_VALUES:
            self.refused(Over, {"name": "x"}, hall.see, "x", value)
            self.refused(Over, {"name": "o"}, hall.see, "o", value)
        self.refused(Over, {"name": "x"}, hall.stop, "x")
        self.refused(Over, {"name": "o"}, hall.stop, "o")

    def test_many_steps(self):
        runs = Study(in_a_row(2), {"trial": Crowd.just(PAIR, (HALF, HALF))})
        only = Study(in_a_row(2), {"trial": Crowd.just(PAIR, (0, 1))})
        hall = Hall([("x", runs), ("y", runs), ("o", only)], X)
        hall.carry(*[("x", "miss")] * 199)
        self.assertEqual(len(hall.story), 199)
        self.refused(TooMany, {"what": "steps", "most": 200}, hall.carry, ("x", "miss"), ("x", "miss"))
        self.assertEqual(len(hall.story), 199)
        self.assertEqual(len(hall.would(("x", "miss"))), 2)
        hall.see("x", "miss")
        for call in (lambda: hall.see("x", "hit"), lambda: hall.stop("y"), lambda: hall.carry(("y", None)), lambda: hall.would(("y", None))):
            self.refused(TooMany, {"what": "steps", "most": 200}, call)
        self.refused(NoStudy, {"name": "q"}, hall.see, "q", "hit")
        self.refused(NoSign, {"name": "q"}, hall.see, "x", "q")
        self.refused(Refuted, {"name": "o", "label": "hit"}, hall.see, "o", "hit")
        self.refused(NoStudy, {"name": "q"}, hall.stop, "q")
        hall.change(Y)
        hall.back()
        hall.back()
        self.assertEqual(hall.see("x", "hit"), "s1")
        self.assertEqual(len(list(hall.moments())), 201)
        self.refused(TooMany, {"what": "steps", "most": 200}, hall.would, *[("q", "hit")] * 201)
        self.refused(BadStory, {"part": "steps"}, hall.carry, *[("q", "hit")] * 201, None)

    def test_carry_and_would(self):
        hall = two()
        steps = [("x", "hit"), ["y", "miss"], ("x", None)]
        self.assertEqual(hall.would(*steps), (Ratio(207, 256), Ratio(57, 64), Ratio(3, 4), 0))
        self.assertEqual((hall.would(), len(hall.story)), ((Ratio(207, 256),), 0))
        self.assertIsNone(hall.carry(*steps))
        self.assertEqual((str(hall.story), hall.fear, hall.peak), ("x hit y miss x -", 0, Ratio(57, 64)))
        for _ in range(3):
            hall.back()
        self.refused(Nothing, {}, hall.back)
        self.assertIsNone(hall.carry())
        # Nothing was done by no steps: what was taken back can still be done again.
        hall.again()
        self.assertEqual(str(hall.story), "x hit")
        hall.carry(("x", "hit"))
        self.refused(Nothing, {}, hall.again)
        before = all_of(hall)
        for call in (hall.carry, hall.would):
            for value in [*ANY_VALUES, ("x",), ("y", "-")]:
                self.refused(BadStory, {"part": "steps"}, call, ("q", None), value)
            self.refused(NoStudy, {"name": "q"}, call, ("y", "hit"), ("q", None), ("x", "hit"))
            self.refused(Over, {"name": "x"}, call, ("y", "hit"), ("x", "hit"))
            self.refused(Over, {"name": "y"}, call, ("y", None), ("y", None))
            self.refused(NoSign, {"name": "q"}, call, ("y", "hit"), ("y", "q"))
            self.assertEqual(all_of(hall), before)
        hall.back()
        hall.again()
        self.assertEqual(all_of(hall), before)

    def test_boards(self):
        hall = two()
        hall.see("x", "hit")
        self.assertIsNone(hall.change(AllOf(X, Y)))
        self.assertEqual((hall.board, hall.fear, hall.peak), (AllOf(X, Y), Ratio(27, 64), Ratio(57, 64)))
        hall.board = Y
        self.assertEqual((hall.board, hall.fear), (Y, Ratio(9, 16)))
        hall.board = Named("y")
        hall.back()
        self.assertEqual(hall.board, Y)
        hall.back()
        self.assertEqual(hall.board, AllOf(X, Y))
        hall.back()
        self.assertEqual((hall.board, hall.fear, hall.place("x")), (AnyOf(X, Y), Ratio(57, 64), "two"))
        hall.again()
        hall.change(other=AllOf(X, Y))
        self.refused(Nothing, {}, hall.again)
        before = all_of(hall)
        for value in [*ANY_VALUES, "x"]:
            self.refused(BadBoard, {"part": "other"}, hall.change, value)
            with self.assertRaises(BadBoard) as caught:
                hall.board = value
            self.assertEqual(caught.exception.part, "other")
        self.refused(NoStudy, {"name": "q"}, hall.change, AnyOf(X, Named("q"), Named("r")))
        self.assertEqual(all_of(hall), before)
        self.assertEqual(list(hall.moments()), [Ratio(81, 256), Ratio(27, 64)])
        self.assertIsInstance(hall.moments(), types.GeneratorType)

    def test_several_deeds_taken_back(self):
        hall = two()
        steps = [("x", "hit"), ("y", "hit"), ("x", None), ("y", "miss")]
        hall.carry(*steps)
        for many in (3, 2, 1, 0):
            hall.back()
            self.assertEqual(hall.story, Story(*steps[:many]))
        self.refused(Nothing, {}, hall.back)
        for many in (1, 2, 3):
            self.assertIsNone(hall.again())
            self.assertEqual(hall.story, Story(*steps[:many]))
        hall.back()
        hall.again()
        hall.again()
        self.assertEqual(hall.story, Story(*steps))
        self.refused(Nothing, {}, hall.again)

    def test_the_peak_stays(self):
        hall = Hall([("x", STUDY), ("y", STUDY)], AllOf(X, Y))
        hall.change(AnyOf(X, Y))
        hall.back()
        self.assertEqual((hall.fear, hall.peak), (Ratio(81, 256), Ratio(207, 256)))
        hall.again()
        hall.see("x", "hit")
        hall.back()
        hall.back()
        self.assertEqual((hall.fear, hall.peak), (Ratio(81, 256), Ratio(57, 64)))
        hall.carry(("x", "hit"), ("x", "hit"), ("y", "hit"), ("y", "miss"))
        self.assertEqual((hall.fear, hall.peak), (0, Ratio(57, 64)))
        self.assertEqual(hall.would(), (0,))

    def test_hopes(self):
        hall = Hall([("l", LOOSE), ("x", STUDY), ("m", Study(sooner(3, 3), dict(LOOSE.crowds)))], X)
        self.assertEqual(hall.hope(), Ratio(1, 16))
        hall.change(AnyOf(Named("m"), X, Named("l")))
        self.refused(Unsure, {"trap": sure(LOOSE)}, hall.hope)
        hall.stop("l")
        self.refused(Unsure, {"trap": sure(hall.study_of("m"))}, hall.hope)
        hall.see("m", "hit")
        self.refused(Unsure, {"trap": sure(begun(hall.study_of("m"), hall.place("m")))}, hall.hope)
        hall.stop("m")
        self.assertEqual(hall.hope(), Ratio(1, 16))
        hall.carry(("x", "hit"), ("x", "hit"))
        self.assertEqual((hall.hope(), hall.fear), (1, 1))
        # Also if the board is lit.
        lit = Hall([("x", STUDY), ("l", LOOSE)], AnyOf(X, Named("l")))
        lit.carry(("x", "hit"), ("x", "hit"))
        self.assertEqual((lit.fear, lit.is_lit), (1, True))
        self.refused(Unsure, {"trap": sure(LOOSE)}, lit.hope)

    def test_parts_of_studies_that_are_sure(self):
        watch = Watch({"a": PAIR}, ["lit", "dark"], [("p", "a", ("q", "r")), ("q", "a", ("lit", "dark")), ("r", "a", ("r", "dark"))])
        study = Study(watch, {"a": Crowd.between(PAIR, 0, 1)})
        hall = Hall([("x", study)], X)
        self.refused(Unsure, {"trap": sure(study)}, hall.hope)
        self.assertIsNone(hall.lasting())
        hall.see("x", "hit")
        self.assertEqual((hall.hope(), hall.lasting()), (0, 1))
        hall.back()
        hall.see("x", "miss")
        self.refused(Unsure, {"trap": sure(begun(study, "r"))}, hall.hope)
        self.assertIsNone(hall.lasting())
        hall.stop("x")
        self.assertEqual((hall.hope(), hall.lasting()), (0, 0))

    def test_begun(self):
        self.assertEqual(begun(STUDY, "two"), Study(STUDY.watch.begun("two"), dict(STUDY.crowds)))
        self.assertEqual(begun(study=STUDY, state="two").states, ("two",))
        arms = Study(Watch({"a": PAIR, "b": PAIR[::-1]}, ["lit"], [("p", "a", ("q", "lit")), ("q", "b", ("p", "lit"))]),
                     {"a": Crowd.just(PAIR, (1, 0)), "b": Crowd.just(PAIR[::-1], (0, 1))})
        self.assertEqual([arm for arm, _ in begun(arms, "q").crowds], ["b", "a"])
        for value in [*ANY_VALUES, STUDY.watch]:
            self.refused(BadStudy, {"part": "study"}, begun, value, value)
        for value in [*ANY_VALUES, "lit", "three"]:
            self.refused(NoState, {"name": value}, begun, STUDY, value)


class DrawnTest(Case):
    def test_fear_and_hope_of_one_machine(self):
        rng = rng_of(181)
        for _ in range(60):
            studies, board = drawn_hall(rng)
            hall, stops = Hall(studies, board), []
            for _ in range(6):
                places = {name: hall.place(name) for name in hall}
                self.assertEqual(number(hall.fear), most_lit(dict(studies), board, places, stops))
                self.assertEqual(number(hall.hope()), least_lit(dict(studies), board, places, stops))
                self.assertTrue(hall.hope().compared(hall.fear) <= 0)
                step = random_step(rng, hall)
                if step:
                    hall.carry(step)
                    stops += [step[0]] * (step[1] is None)

    def test_means_of_fears_and_hopes(self):
        rng = rng_of(182)
        for _ in range(50):
            studies, board = drawn_hall(rng, lambda rng: drawn_study(rng, rng.randint(1, 3), 2))
            hall = Hall(studies, board)
            for _ in range(4):
                for name in hall:
                    if hall.runs(name):
                        self.check_means(hall, dict(studies)[name], name)
                step = random_step(rng, hall)
                if step:
                    before, hope = hall.fear, self.hope(hall)
                    hall.carry(step)
                    if step[1] is None:
                        self.assertTrue(hall.fear.compared(before) <= 0)
                        self.assertTrue(hope is None or self.hope(hall) <= hope)

    def hope(self, hall):
        try:
            return number(hall.hope())
        except Unsure:
            return None

    def check_means(self, hall, study, name):
        fears, hopes = {}, {}
        for sign in hall.choices(name):
            twin = hall.twin()
            twin.see(name, sign)
            place = twin.place(name)
            fears[place], hopes[place] = number(twin.fear), self.hope(twin)
            self.assertEqual(hall.would((name, sign)), (hall.fear, twin.fear))
        means = [sum(chance * fears[place] for chance, place in move) for move in moves(study, hall.place(name))]
        self.assertEqual(max(means), number(hall.fear))
        if self.hope(hall) is not None:
            means = [sum(chance * hopes[place] for chance, place in move) for move in moves(study, hall.place(name))]
            self.assertTrue(min(means) == self.hope(hall))

    def test_lasting(self):
        rng = rng_of(183)
        for _ in range(60):
            studies, board = drawn_hall(rng, lambda rng: drawn_study(rng, rng.randint(1, 3), 2))
            hall = Hall(studies, board)
            for _ in range(4):
                total = 0
                for name in hall:
                    if hall.runs(name) and total is not None:
                        part = begun(hall.study_of(name), hall.place(name))
                        paper = dearest(part, Costs.each_trial(part.watch))
                        total = total + number(paper.number) if paper else None
                found = hall.lasting()
                self.assertEqual(found if found is None else number(found), total)
                step = random_step(rng, hall)
                if step:
                    hall.carry(step)

    def compare(self, hall, model):
        places, stops, board, steps = model.now()
        self.assertEqual({name: hall.place(name) for name in hall}, places)
        self.assertEqual([hall.runs(name) for name in hall],
                         [place in model.studies[name].watch.states and name not in stops for name, place in places.items()])
        self.assertEqual((hall.board, hall.story.steps), (board, steps))
        self.assertEqual((number(hall.fear), number(hall.peak)), (model.fear(), model.peak))
        self.assertEqual(number(hall.likely()), model.likely())
        self.assertEqual(hall.is_lit, board.lights(lit_names(places)))
        for name in hall:
            signs = model.studies[name].possible_of(places[name]) if hall.runs(name) else ()
            self.assertEqual(hall.choices(name), signs)

    def play(self, rng, hall, model, depth):
        for _ in range(rng.randint(1, 7)):
            way = rng.randrange(10)
            if way < 4:
                step = random_step(rng, hall)
                if step:
                    self.assertEqual(hall.see(*step) if step[1] else hall.stop(step[0]),
                                     model.studies[step[0]].watch.place(model.now()[0][step[0]], step[1]) if step[1] else None)
                    model.step(*step)
            elif way == 4:
                names = list(hall)
                board = drawn_board_of(rng, rng.sample(names, rng.randint(1, len(names))))
                hall.change(board)
                model.turn(board)
            elif way == 5:
                if len(model.done) > 1:
                    hall.back()
                    model.back()
                else:
                    self.refused(Nothing, {}, hall.back)
            elif way == 6:
                if model.taken:
                    hall.again()
                    model.again()
                else:
                    self.refused(Nothing, {}, hall.again)
            elif way == 7 and depth:
                saved, kept = model.saved(), None
                with hall.trial() as trial:
                    self.assertIs(trial.hall, hall)
                    self.play(rng, hall, model, depth - 1)
                    if rng.randrange(2):
                        trial.keep()
                        kept = model.saved()
                    self.play(rng, hall, model, depth - 1)
                model.restore(kept or saved)
            elif way == 8:
                twin, other = hall.twin(), model.twin()
                if depth:
                    self.play(rng, twin, other, 0)
                self.compare(twin, other)
            else:
                self.assertEqual([number(fear) for fear in hall.moments()], model.moments())
            self.compare(hall, model)

    def test_deeds_against_a_list_of_standings(self):
        rng = rng_of(184)
        for _ in range(60):
            studies, board = drawn_hall(rng, lambda rng: drawn_study(rng, rng.randint(1, 3), 2), 2)
            hall, model = Hall(studies, board), Model(studies, board)
            self.play(rng, hall, model, 2)

    def test_handled_studies(self):
        rng = rng_of(185)
        for _ in range(20):
            plain = ahead_study(rng)
            handled = rng.choice([Lost(plain, 1), Late(plain, 1)])
            hall = Hall([("x", handled)], X)
            self.assertEqual(hall.fear, greatest(handled).number)
            row = []
            while hall.runs("x") and len(row) < 6:
                row.append(rng.choice(hall.choices("x")))
                hall.see("x", row[-1])
            self.assertEqual(plain.watch.after(hall.study_of("x").told(row)),
                             handled.origin(hall.place("x"))[0] if hall.runs("x") else hall.place("x"))


class TrialTest(Case):
    def test_blocks(self):
        hall = two()
        hall.see("x", "hit")
        hall.stop("y")
        hall.back()
        before = all_of(hall)
        with hall.trial() as trial:
            self.assertIsInstance(trial, Trial)
            self.assertIs(trial.hall, hall)
            hall.carry(("y", "hit"), ("x", "hit"))
            hall.board = X
            self.refused(Nothing, {}, hall.again)
            self.assertEqual(hall.peak, 1)
        self.assertEqual(all_of(hall), before)
        hall.again()
        self.assertEqual(str(hall.story), "x hit y -")
        self.refused(Nothing, {}, trial.keep)

    def test_keep(self):
        hall = two()
        with hall.trial() as trial:
            hall.see("x", "hit")
            self.assertIsNone(trial.keep())
            hall.see("x", "hit")
            trial.keep()
            hall.see("y", "miss")
        self.assertEqual((str(hall.story), hall.peak), ("x hit x hit", 1))
        hall.back()
        hall.again()
        self.assertEqual(str(hall.story), "x hit x hit")

    def test_errors_in_blocks(self):
        hall = two()
        for error in (ValueError, KeyboardInterrupt):
            with self.assertRaises(error):
                with hall.trial() as trial:
                    hall.see("x", "hit")
                    raise error("told")
            self.assertEqual((str(hall.story), hall.peak), ("-", Ratio(207, 256)))
            self.refused(Nothing, {}, trial.keep)
        with self.assertRaises(Over):
            with hall.trial() as trial:
                hall.see("x", "miss")
                trial.keep()
                hall.see("x", "hit")
        self.assertEqual(str(hall.story), "x miss")

    def test_one_trial_several_times(self):
        hall = two()
        trial = hall.trial()
        self.refused(Nothing, {}, trial.keep)
        with trial as told:
            self.assertIs(told, trial)
            hall.see("x", "hit")
        with trial:
            hall.see("y", "hit")
            trial.keep()
        self.assertEqual(str(hall.story), "y hit")
        with trial:
            hall.see("x", "miss")
            with trial:
                hall.see("y", "miss")
                trial.keep()
                hall.back()
            self.assertEqual(str(hall.story), "y hit x miss y miss")
            with trial:
                hall.back()
            self.assertEqual(str(hall.story), "y hit x miss y miss")
        self.assertEqual(str(hall.story), "y hit")
        with trial:
            hall.see("x", "miss")
            trial.keep()
            with trial:
                hall.see("y", "miss")
            hall.back()
        self.assertEqual(str(hall.story), "y hit x miss")
        self.refused(Nothing, {}, trial.keep)

    def test_nested_blocks(self):
        hall = two()
        with hall.trial() as outer:
            hall.see("x", "hit")
            with hall.trial() as inner:
                hall.see("y", "hit")
                outer.keep()
                hall.see("x", "hit")
                inner.keep()
            self.assertEqual(str(hall.story), "x hit y hit x hit")
        self.assertEqual(str(hall.story), "x hit y hit")

    def test_tried(self):
        hall = two()
        found = []
        def work(trial):
            found.append(trial)
            hall.see("x", "hit")
            if len(found) > 1:
                trial.keep()
            return hall.fear
        self.assertEqual((hall.tried(work), str(hall.story)), (Ratio(57, 64), "-"))
        self.assertEqual((hall.tried(work=work), str(hall.story)), (Ratio(57, 64), "x hit"))
        self.assertTrue(found[0] is not found[1] and found[0].hall is hall)
        self.refused(Nothing, {}, found[1].keep)
        with self.assertRaises(PeekError):
            hall.tried(lambda trial: hall.see("q", "hit"))
        self.assertEqual(str(hall.story), "x hit")

    def test_twins(self):
        hall = two()
        hall.carry(("x", "hit"), ("y", "miss"))
        hall.back()
        with hall.trial():
            hall.see("y", "hit")
            twin = hall.twin()
        self.assertEqual((str(twin.story), str(hall.story)), ("x hit y hit", "x hit"))
        twin.back()
        twin.stop("x")
        self.assertEqual((str(twin.story), str(hall.story)), ("x hit x -", "x hit"))
        hall.again()
        self.assertEqual(str(hall.story), "x hit y miss")
        self.refused(Nothing, {}, twin.again)
        self.assertIsInstance(twin, Hall)
        self.assertIs(twin.study_of("x"), hall.study_of("x"))


if __name__ == "__main__":
    unittest.main()

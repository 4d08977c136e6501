import unittest

from peekproof.boards import AllOf, AnyOf, AtLeast, Board, Named
from peekproof.check_shelves import shows_choice, shows_rung
from peekproof.costs import Costs
from peekproof.crowds import Crowd
from peekproof.dearest import Dearest, dearest
from peekproof.errors import BadBoard, BadNumbers, BadShelf, BadStudy, NoStudy, TooMany, Twice, Unsure
from peekproof.greatest import Greatest, greatest
from peekproof.ladders import Ladder, NoRung, Rung, first_fit
from peekproof.least import Least, least
from peekproof.levels import Common, Kept, NoCommon, Passed, common_level, common_rung, keeps
from peekproof.made import in_a_row, in_all, sooner
from peekproof.papers import Denial, Paper
from peekproof.ratios import Ratio
from peekproof.shelves import Choice, Chosen, Dull, Long, Loud, NoChoice, Shelf, Slot, most_telling
from peekproof.studies import Study
from peekproof.sure import sure
from peekproof.watches import Watch
from tests import board_oracle
from tests.board_oracle import drawn_board
from tests.paper_oracle import bent, bent_paper, is_dearest, is_greatest, is_least
from tests.study_oracle import number
from tests.support import ANY_VALUES, Case, drawn_crowd, drawn_watch, rng_of
from tests.test_ladders import NO_LEVELS, WIDE
from tests.test_solved import long_study

HALF = Ratio(1, 2)
PAIR = ("hit", "miss")
RACE = sooner(1, 1)


def coin(low, high=None):
    return {"trial": Crowd.between(PAIR, low, high or low)}


def slot(name, quiet, real, watch=RACE):
    return Slot(name, Study(watch, coin(quiet)), Study(watch, coin(real)))


def drawn_slots(rng, want_sure=True):
    slots = []
    for at in range(rng.randint(1, 4)):
        while True:
            watch = drawn_watch(rng, rng.randint(1, 2), {"trial": PAIR})
            real = Study(watch, {"trial": drawn_crowd(rng, PAIR, 2, 2)})
            if sure(real) or not want_sure:
                break
        slots.append(Slot(f"s{at}", Study(watch, {"trial": drawn_crowd(rng, PAIR, 2, 2)}), real))
    return slots


class SlotTest(Case):
    def test_parts(self):
        quiet, real = Study(RACE, coin(HALF)), Study(RACE, coin(Ratio(3, 4)))
        one = Slot("a", quiet, real)
        self.assertEqual((one.name, one.quiet, one.real), ("a", quiet, real))
        self.assertEqual(one, Slot(name="a", quiet=quiet, real=real))
        for other in (Slot("b", quiet, real), Slot("a", real, real), Slot("a", quiet, quiet), Slot("a", real, quiet)):
            self.assertTrue(one != other and not one == other)
        for value in [*ANY_VALUES, quiet]:
            self.assertIs(one == value, False)

    def test_errors_in_their_order(self):
        quiet, real = Study(RACE, coin(HALF)), Study(in_a_row(2), coin(HALF))
        for value in [value for value in ANY_VALUES if value != "x"] + ["a.b", "A", quiet]:
            self.refused(BadShelf, {"part": "name"}, Slot, value, value, value)
        for value in [*ANY_VALUES, RACE]:
            self.refused(BadStudy, {"part": "quiet"}, Slot, "a", value, value)
            self.refused(BadStudy, {"part": "real"}, Slot, "a", quiet, value)
        self.refused(BadShelf, {"part": "watches"}, Slot, "a", quiet, real)

    def test_shelves(self):
        slots = [slot(name, HALF, HALF) for name in ("a", "c", "b")]
        shelf = Shelf(slots)
        self.assertEqual((shelf.slots, list(shelf), len(shelf), "c" in shelf, "d" in shelf), (tuple(slots), slots, 3, True, False))
        self.assertEqual(Shelf.MOST, 12)
        for value in ANY_VALUES:
            self.assertIs(value in shelf, False)
            self.refused(NoStudy, {"name": value}, shelf.slot_of, value)
        self.assertIs(shelf.slot_of("b"), slots[2])
        self.assertEqual(shelf.slot_of(name="a"), slots[0])
        self.assertEqual(Shelf(slots=tuple(slots)), shelf)
        for other in (Shelf(slots[:2]), Shelf(slots[::-1]), Shelf([*slots[:2], slot("b", HALF, Ratio(1, 3))])):
            self.assertTrue(shelf != other and not shelf == other)
        for value in [*ANY_VALUES, tuple(slots)]:
            self.assertIs(shelf == value, False)
        for value in ANY_VALUES:
            self.refused(BadShelf, {"part": "slots"}, Shelf, value)
            self.refused(BadShelf, {"part": "slots"}, Shelf, [slots[0], slots[0], value])
        self.refused(BadShelf, {"part": "slots"}, Shelf, {"a": slots[0]})
        self.refused(Twice, {"name": "c"}, Shelf, [*slots, slots[1], slots[0]])
        many = [slot(f"s{at}", HALF, HALF) for at in range(13)]
        self.assertEqual(len(Shelf(many[:12])), 12)
        self.refused(TooMany, {"what": "slots", "most": 12}, Shelf, many)
        self.refused(Twice, {"name": "s0"}, Shelf, [*many, many[0]])
        slots.clear()
        self.assertEqual(len(shelf.slots), 3)


class MostTellingTest(Case):
    def test_ordinary_ones(self):
        weak, loud, strong = slot("weak", Ratio(1, 4), HALF), slot("loud", Ratio(3, 4), 1), slot("strong", Ratio(1, 4), Ratio(3, 4))
        found = most_telling(Shelf([weak, loud, strong]), Ratio(1, 4))
        trials = Costs.each_trial(RACE)
        self.assertEqual(found, Choice("strong", {
            "weak": Dull(least(weak.real)), "loud": Loud(greatest(loud.quiet)),
            "strong": Chosen(greatest(strong.quiet), least(strong.real), dearest(strong.real, trials))}))
        self.assertEqual((found.name, bool(found), [bool(bar) for _, bar in found.bars]), ("strong", True, [False, True, False]))
        none = most_telling(shelf=Shelf([weak, loud]), level=0)
        self.assertEqual(none, NoChoice({"weak": Loud(greatest(weak.quiet)), "loud": Loud(greatest(loud.quiet))}))
        self.assertFalse(none)

    def test_equal_powers_and_lengths(self):
        short, long = slot("short", HALF, HALF), slot("long", HALF, HALF, sooner(2, 2))
        again, later = slot("again", HALF, HALF), slot("later", Ratio(1, 3), HALF)
        for slots, wanted in (([short, long], "short"), ([long, short], "short"), ([long, again, short, later], "again"),
                              ([later, short, again], "later")):
            found = most_telling(Shelf(slots), HALF)
            self.assertEqual(found.name, wanted)
            self.assertEqual({name: bar.word for name, bar in found.bars},
                             {one.name: "chosen" if one.name == wanted else "long" for one in slots})
            self.assertTrue(shows_choice(Shelf(slots), HALF, found))

    def test_drawn(self):
        rng = rng_of(161)
        words = {}
        for _ in range(200):
            slots = drawn_slots(rng)
            shelf = Shelf(slots)
            level = rng.choice([0, 1, HALF, Ratio(rng.randint(0, 8), 8), greatest(slots[0].quiet).number])
            numbers = [(greatest(one.quiet).number, least(one.real).number, dearest(one.real, Costs.each_trial(one.real.watch)).number)
                       for one in slots]
            fits = [at for at, told in enumerate(numbers) if told[0].compared(level) <= 0]
            found = most_telling(shelf, level)
            self.assertTrue(shows_choice(shelf, level, found))
            if not fits:
                self.assertEqual(found, NoChoice({one.name: Loud(greatest(one.quiet)) for one in slots}))
            else:
                best = min(fits, key=lambda at: (-number(numbers[at][1]), number(numbers[at][2]), at))
                self.assertEqual(found.name, f"s{best}")
                for at, one in enumerate(slots):
                    bar = dict(found.bars)[one.name]
                    words[bar.word] = words.get(bar.word, 0) + 1
                    length = dearest(one.real, Costs.each_trial(one.real.watch))
                    wanted = (Chosen(greatest(one.quiet), least(one.real), length) if at == best else Loud(greatest(one.quiet))
                              if at not in fits else Dull(least(one.real)) if numbers[at][1] != numbers[best][1]
                              else Long(least(one.real), length))
                    self.assertEqual(bar, wanted)
                    self.assertIs(bar.__class__, wanted.__class__)
        self.assertEqual(len(words), 4)
        self.assertGreater(min(words.values()), 10)

    def test_errors_in_their_order(self):
        loose = {"trial": Crowd.between(PAIR, 0, 1)}
        stays = Watch({"trial": PAIR}, ["lit", "dark"], [("s", "trial", ("s", "dark"))])
        shelf = Shelf([slot("a", HALF, HALF)])
        for call in (most_telling, lambda shelf, level: shows_choice(shelf, level, None)):
            for value in [*ANY_VALUES, shelf.slots]:
                self.refused(BadShelf, {"part": "shelf"}, call, value, value)
            for value in NO_LEVELS:
                self.refused(BadShelf, {"part": "level"}, call, shelf, value)
        large = long_study(41)
        unsure = Slot("u", Study(stays, coin(HALF)), Study(stays, loose))
        other = Slot("v", Study(sooner(2, 2), coin(HALF)), Study(sooner(2, 2), loose))
        wide = Slot("w", large, large)
        self.refused(TooMany, {"what": "states", "most": 40}, most_telling, Shelf([wide]), 1)
        for slots, trap in (([wide, unsure], unsure), ([unsure, wide, other], unsure), ([other, unsure], other), ([shelf.slots[0], other], other)):
            for level in (0, 1):
                self.refused(Unsure, {"trap": sure(trap.real)}, most_telling, Shelf(slots), level)
            self.refused(BadShelf, {"part": "level"}, most_telling, Shelf(slots), 2)
        # A quiet study need not be sure; a study that is too large is refused where its slot does not fit, too.
        calm = Slot("q", Study(stays, loose), Study(stays, coin(HALF)))
        self.assertEqual(most_telling(Shelf([calm]), 0).name, "q")
        self.refused(TooMany, {"what": "states", "most": 40}, most_telling, Shelf([slot("a", Ratio(1, 4), HALF), wide]), Ratio(1, 4))
        self.assertIs(shows_choice(Shelf([wide]), 1, None), False)
        # Few states come about in the quiet study, and the slot does not fit: yet its real study is too large.
        name, signs = large.watch.arms[0]
        lines = [("first", name, ("lit", "q0")), *[(state, name, large.watch.places_of(state)) for state in large.watch]]
        watch = Watch({name: signs}, large.watch.ends, lines)
        half = Slot("h", Study(watch, {name: Crowd.just(signs, (1, 0))}), Study(watch, {name: Crowd.just(signs, (HALF, HALF))}))
        self.assertEqual((len(half.quiet), len(half.real), greatest(half.quiet).number), (1, 42, 1))
        self.refused(TooMany, {"what": "states", "most": 40}, most_telling, Shelf([slot("a", HALF, HALF), half]), 0)


class ShowsChoiceTest(Case):
    def is_right(self, shelf, level, paper):
        """Whether the paper is as the document tells, by the oracles of its parts."""
        bars = paper.bars
        names = [one.name for one in shelf.slots]
        if not isinstance(bars, tuple) or not all(isinstance(pair, tuple) and len(pair) == 2 for pair in bars):
            return False
        if not all(isinstance(pair[0], str) for pair in bars) or [pair[0] for pair in bars] != sorted(names):
            return False
        bars = dict(bars)
        def calm(one, told):
            return type(told) is Greatest and is_greatest(one.quiet, told)
        def power(one, told):
            return type(told) is Least and is_least(one.real, told)
        def length(one, told):
            return type(told) is Dearest and is_dearest(one.real, Costs.each_trial(one.real.watch), told)
        def is_loud(one):
            bar = bars[one.name]
            return type(bar) is Loud and calm(one, bar.calm) and number(bar.calm.number) > number(level)
        if isinstance(paper, NoChoice):
            return all(is_loud(one) for one in shelf.slots)
        if not isinstance(paper.name, str) or paper.name not in names or not all(sure(one.real) for one in shelf.slots):
            return False
        place = names.index(paper.name)
        best, one = bars[paper.name], shelf.slots[place]
        if type(best) is not Chosen or not (calm(one, best.calm) and power(one, best.power) and length(one, best.length)):
            return False
        if number(best.calm.number) > number(level):
            return False
        for at, one in enumerate(shelf.slots):
            bar = bars[one.name]
            if at == place or is_loud(one):
                continue
            if type(bar) is Dull and power(one, bar.power) and number(bar.power.number) < number(best.power.number):
                continue
            if type(bar) is Long and power(one, bar.power) and length(one, bar.length) \
                    and number(bar.power.number) == number(best.power.number) \
                    and (number(bar.length.number), at) > (number(best.length.number), place):
                continue
            return False
        return True

    def test_bent_papers(self):
        rng = rng_of(162)
        counts = {(kind, shown): 0 for kind in (Choice, NoChoice) for shown in (True, False)}
        for _ in range(200):
            slots = drawn_slots(rng, rng.randrange(4) > 0)
            shelf = Shelf(slots)
            level = rng.choice([0, 1, HALF, greatest(slots[0].quiet).number])
            papers = []
            for _ in range(6):
                bars = {one.name: self.bar_of(rng, one) for one in slots}
                name = rng.choice([one.name for one in slots])
                if rng.randrange(2):
                    bars[name] = Chosen(greatest(shelf.slot_of(name).quiet), least(shelf.slot_of(name).real), self.length(shelf.slot_of(name)))
                papers += [Choice(name, bars), NoChoice(bars)]
            papers.append(NoChoice({one.name: Loud(greatest(one.quiet)) for one in slots}))
            if all(sure(one.real) for one in slots):
                right = most_telling(shelf, level)
                bars = dict(right.bars)
                name = rng.choice(sorted(bars))
                papers += [right, bent_paper(rng, right), right.__class__(*right.parts[:-1], {**bars, name: bent_paper(rng, bars[name])}),
                           right.__class__(*right.parts[:-1], {**bars, name: rng.choice(list(bars.values()))})]
                part = rng.randrange(len(bars[name].parts))
                parts = list(bars[name].parts)
                parts[part] = bent_paper(rng, parts[part])
                papers.append(right.__class__(*right.parts[:-1], {**bars, name: bars[name].__class__(*parts)}))
            for paper in papers:
                wanted = self.is_right(shelf, level, paper)
                self.assertIs(shows_choice(shelf, level, paper), wanted)
                counts[paper.__class__, wanted] += 1
        self.assertTrue(min(counts.values()) > 40, counts)

    def length(self, one):
        return dearest(one.real, Costs.each_trial(one.real.watch))

    def bar_of(self, rng, one):
        power, length = least(one.real), self.length(one)
        return rng.choice([Loud(greatest(one.quiet)), Dull(power), Long(power, length), Chosen(greatest(one.quiet), power, length)])

    def test_a_real_study_that_is_not_sure(self):
        stays = Watch({"trial": PAIR}, ["lit", "dark"], [("s", "trial", ("s", "dark"))])
        free = Slot("u", Study(stays, coin(1)), Study(stays, {"trial": Crowd.between(PAIR, 0, 1)}))
        loud = Slot("v", Study(RACE, coin(HALF)), Study(RACE, {"trial": Crowd.between(PAIR, 0, 1)}))
        good = slot("a", Ratio(1, 4), HALF)
        lost = Slot("w", Study(in_all(1), coin(HALF)), Study(in_all(1), {"trial": Crowd.between(PAIR, 0, 1)}))
        bars = {"a": Chosen(greatest(good.quiet), least(good.real), self.length(good)), "w": Loud(greatest(lost.quiet))}
        self.assertIs(shows_choice(Shelf([good, lost]), HALF, Choice("a", bars)), False)
        self.assertTrue(shows_choice(Shelf([lost]), HALF, NoChoice({"w": Loud(greatest(lost.quiet))})))
        self.assertTrue(shows_choice(Shelf([good, loud]), Ratio(1, 4), Choice("a", {"a": bars["a"], "v": Loud(greatest(loud.quiet))})))
        self.assertFalse(sure(free.real))

    def test_values_of_any_kind(self):
        shelf = Shelf([slot("a", HALF, HALF)])
        right = most_telling(shelf, HALF)
        self.assertTrue(shows_choice(shelf=shelf, level=HALF, value=right))
        for value in [*ANY_VALUES, Paper("choice", *right.parts), right.parts[1][0][1]]:
            self.assertIs(shows_choice(shelf, HALF, value), False)
            self.assertIs(shows_choice(shelf, HALF, Choice(value, right.bars)), False)
            self.assertIs(shows_choice(shelf, HALF, Choice("a", value)), False)
            self.assertIs(shows_choice(shelf, 0, NoChoice(value)), False)
            self.assertIs(shows_choice(shelf, HALF, Choice("a", {"a": value})), value == right.parts[1][0][1])
        # An integer may stand for a ratio in a right paper.
        sure_one = slot("a", 1, 1)
        calm = Greatest(1, {"s0": 1}, {"s0": 0}, {"s0": 1})
        power, length = Least(1, {"s0": 1}, {"s0": 0}, {"s0": 1}), Dearest(1, {"s0": 1}, {"s0": 0}, {"s0": 1})
        self.assertTrue(shows_choice(Shelf([sure_one]), 1, Choice("a", {"a": Chosen(calm, power, length)})))


class RungTest(Case):
    def ladder(self):
        return Ladder([("one", Study(sooner(1, 2), WIDE)), ("two", Study(sooner(2, 2), WIDE)), ("three", Study(sooner(3, 2), WIDE))])

    def test_right_ones(self):
        ladder = self.ladder()
        numbers = ladder.numbers()
        self.assertEqual(numbers, (Ratio(2, 3), HALF, Ratio(2, 5)))
        papers = [greatest(study) for _, study in ladder.rungs]
        for level, paper in ((1, Rung("one", papers[0], None)), (Ratio(2, 3), Rung("one", papers[0], None)),
                             (HALF, Rung("two", papers[1], papers[0])), (Ratio(9, 20), Rung("three", papers[2], papers[1])),
                             (Ratio(2, 5), Rung("three", papers[2], papers[1])), (Ratio(1, 3), NoRung(papers[2]))):
            self.assertEqual(first_fit(ladder, level), paper)
            self.assertTrue(shows_rung(ladder, level, paper))
            for other in (1, HALF, Ratio(2, 5), Ratio(1, 3), 0):
                self.assertIs(shows_rung(ladder, other, paper), first_fit(ladder, other) == paper)

    def test_wrong_ones(self):
        ladder = self.ladder()
        papers = [greatest(study) for _, study in ladder.rungs]
        self.assertTrue(shows_rung(ladder=ladder, level=HALF, value=Rung("two", papers[1], papers[0])))
        for value in [*ANY_VALUES, Paper("rung", "two", papers[1], papers[0]), Denial("norung", papers[2]), papers[1]]:
            self.assertIs(shows_rung(ladder, HALF, value), False)
            self.assertIs(shows_rung(ladder, HALF, Rung(value, papers[1], papers[0])), False)
            self.assertIs(shows_rung(ladder, HALF, Rung("two", value, papers[0])), value == papers[1])
            self.assertIs(shows_rung(ladder, HALF, Rung("two", papers[1], value)), False)
            self.assertIs(shows_rung(ladder, 1, Rung("one", papers[0], value)), value is None)
            self.assertIs(shows_rung(ladder, 0, NoRung(value)), False)
        for paper in (Rung("two", papers[0], papers[0]), Rung("two", papers[1], papers[2]), Rung("one", papers[1], papers[0]),
                      Rung("two", Least(*papers[1].parts), papers[0]), NoRung(papers[1]), NoRung(papers[0])):
            self.assertIs(shows_rung(ladder, HALF, paper), False)
            self.assertIs(shows_rung(ladder, 0, paper), False)
        rng = rng_of(163)
        for _ in range(60):
            parts = [bent_paper(rng, papers[1]), papers[0]]
            rng.shuffle(parts)
            self.assertIs(shows_rung(ladder, HALF, Rung("two", *parts)), is_greatest(ladder.study_of("two"), parts[0]) and is_greatest(
                ladder.study_of("one"), parts[1]))

    def test_errors(self):
        ladder = self.ladder()
        for value in [*ANY_VALUES, ladder.rungs]:
            self.refused(BadShelf, {"part": "ladder"}, shows_rung, value, value, value)
        for value in NO_LEVELS:
            self.refused(BadShelf, {"part": "level"}, shows_rung, ladder, value, None)
        self.assertIs(shows_rung(Ladder([("a", long_study(41))]), 1, None), False)


class LevelsTest(Case):
    def test_keeps(self):
        board = AnyOf(Named("x"), Named("y"))
        self.assertEqual(keeps(board, {"x": Ratio(1, 4), "y": 0}, Ratio(1, 4)), Kept(Ratio(1, 4)))
        self.assertEqual(keeps(board=board, levels={"x": Ratio(1, 4), "y": Ratio(1, 9)}, level=Ratio(1, 4)), Passed(Ratio(1, 3)))
        self.assertEqual([bool(Kept(1)), bool(Passed(1)), Kept(HALF).form, Passed(HALF).form], [True, False, HALF, HALF])
        rng = rng_of(164)
        for _ in range(80):
            board = drawn_board(rng, rng.randint(1, 5))
            levels = {name: rng.choice([0, 1, HALF, Ratio(rng.randint(0, 5), 5)]) for name in board.names}
            form, level = board_oracle.form(board, levels), rng.choice([0, 1, HALF, board(levels)])
            found = keeps(board, levels, level)
            self.assertEqual((number(found.form), bool(found)), (form, form <= number(level)))
            self.assertIs(found.__class__, Kept if found else Passed)
            self.assertIsInstance(found.form, Ratio)
        for value in [*ANY_VALUES, "x"]:
            self.refused(BadBoard, {"part": "board"}, keeps, value, value, value)
        for value in [*[value for value in ANY_VALUES if value != {"x": 1}], {"x": 1, "y": 1, "z": 1}, {"x": 1, "y": 2}, {"x": 1, "y": True},
                      {"x": 1, "y": -1}, {"x": 1, None: 1}, {"x": 1}, {"y": 1, "z": 1}]:
            self.refused(BadNumbers, {"part": "levels"}, keeps, AnyOf(Named("x"), Named("y")), value, 5)
        for value in NO_LEVELS:
            self.refused(BadShelf, {"part": "level"}, keeps, Named("x"), {"x": 1}, value)

    def test_common_levels(self):
        board = AllOf(Named("x"), Named("y"))
        levels = [Ratio(1, 4), HALF, Ratio(3, 4)]
        self.assertEqual(common_level(board, levels, Ratio(1, 4)), Common(1, Ratio(1, 4), Ratio(9, 16)))
        self.assertEqual(common_level(board=board, levels=tuple(levels), level=1), Common(2, Ratio(9, 16), None))
        self.assertEqual(common_level(board, levels, Ratio(1, 17)), NoCommon(Ratio(1, 16)))
        self.assertEqual(common_level(board, [1], 0), NoCommon(1))
        self.assertEqual(common_level(board, [0], 0), Common(0, 0, None))
        found = common_level(board, levels, Ratio(1, 4))
        self.assertEqual((found.index, found.here, found.beyond), (1, Ratio(1, 4), Ratio(9, 16)))
        self.assertEqual(NoCommon(HALF).form, HALF)
        rng = rng_of(165)
        for _ in range(120):
            board = drawn_board(rng, rng.randint(1, 4))
            levels = sorted({rng.randint(0, 12) for _ in range(rng.randint(1, 8))})
            levels = [Ratio(top, 12) for top in levels]
            forms = [board({name: level for name in board.names}) for level in levels]
            level = rng.choice([0, 1, HALF, *forms])
            fits = [at for at, form in enumerate(forms) if form.compared(level) <= 0]
            wanted = Common(fits[-1], forms[fits[-1]], forms[fits[-1] + 1] if fits[-1] + 1 < len(forms) else None) if fits else NoCommon(forms[0])
            self.assertEqual(common_level(board, levels, level), wanted)

    def test_errors_of_common_levels(self):
        board = Named("x")
        for value in [*ANY_VALUES, "x"]:
            self.refused(BadBoard, {"part": "board"}, common_level, value, value, value)
        for value in [*[value for value in ANY_VALUES if value not in ([1],)], [HALF, HALF], [HALF, Ratio(1, 4)], [0, 2], [-1, 0], [True],
                      [0, 1, 1], {0: 1}, [0, None], [0, HALF, Ratio(1, 3), 1]]:
            self.refused(BadNumbers, {"part": "levels"}, common_level, board, value, 5)
        for value in NO_LEVELS:
            self.refused(BadShelf, {"part": "level"}, common_level, board, [0, 1], value)
        many = [Ratio(at, 300) for at in range(201)]
        self.assertEqual(common_level(board, many[:200], HALF), Common(150, HALF, Ratio(151, 300)))
        self.refused(TooMany, {"what": "levels", "most": 200}, common_level, board, many, HALF)
        self.refused(BadShelf, {"part": "level"}, common_level, board, many, 2)
        self.refused(BadNumbers, {"part": "levels"}, common_level, board, [*many, HALF], 1)

    def test_common_rungs(self):
        one = Ladder([(f"r{at}", Study(sooner(at, 1), coin(HALF))) for at in range(1, 4)])
        two = Ladder([(f"r{at}", Study(sooner(at, 2), coin(HALF))) for at in range(1, 4)])
        self.assertEqual([one.numbers(), two.numbers()], [(HALF, Ratio(1, 3), Ratio(1, 4)), (Ratio(2, 3), HALF, Ratio(2, 5))])
        board = AllOf(Named("x"), Named("y"))
        ladders = {"y": two, "x": one}
        self.assertEqual(common_rung(board, ladders, HALF), Common(0, Ratio(1, 3), None))
        self.assertEqual(common_rung(board, ladders, Ratio(1, 6)), Common(1, Ratio(1, 6), Ratio(1, 3)))
        self.assertEqual(common_rung(board=board, ladders=ladders, level=Ratio(1, 9)), Common(2, Ratio(1, 10), Ratio(1, 6)))
        self.assertEqual(common_rung(board, ladders, Ratio(1, 11)), NoCommon(Ratio(1, 10)))
        self.assertEqual(common_rung(Named("x"), {"x": one}, Ratio(1, 3)), Common(1, Ratio(1, 3), HALF))
        single = Ladder(one.rungs[:1])
        self.assertEqual(common_rung(AtLeast(2, Named("a"), Named("b")), {"a": single, "b": single}, Ratio(1, 4)), Common(0, Ratio(1, 4), None))
        for value in [*ANY_VALUES, "x"]:
            self.refused(BadBoard, {"part": "board"}, common_rung, value, value, value)
        for value in [*ANY_VALUES, {"x": one}, {"x": one, "y": None}, {"x": one, "y": two, "z": two}, {"x": one, "y": single},
                      {"x": one, "z": two}, [("x", one), ("y", two)]]:
            self.refused(BadShelf, {"part": "ladders"}, common_rung, board, value, 5)
        for value in NO_LEVELS:
            self.refused(BadShelf, {"part": "level"}, common_rung, board, ladders, value)
        deep = Ladder([("a", long_study(41))])
        self.refused(BadShelf, {"part": "level"}, common_rung, Named("x"), {"x": deep}, 5)
        self.refused(TooMany, {"what": "states", "most": 40}, common_rung, board, {"x": single, "y": deep}, 1)
        self.assertEqual(common_rung(Board.read("( any x y )"), {"x": single, "y": single}, 1).index, 0)


class BentLevelTest(Case):
    def test_papers_keep_any_values(self):
        rng = rng_of(166)
        for kind, many in ((Kept, 1), (Passed, 1), (Common, 3), (NoCommon, 1), (Choice, 2), (NoChoice, 1), (Chosen, 3), (Loud, 1), (Dull, 1),
                           (Long, 2), (Rung, 3), (NoRung, 1)):
            parts = [bent(rng, (1, (2, 3))) for _ in range(many)]
            self.assertEqual(kind(*parts), kind(*parts))
            self.assertEqual(bool(kind(*parts)), kind in (Kept, Common, Choice, Chosen, Rung))


if __name__ == "__main__":
    unittest.main()

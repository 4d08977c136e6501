import unittest

from peekproof.boards import Board
from peekproof.desk import Desk
from peekproof.errors import (BadBoard, BadCrowd, BadHall, BadLine, BadNest, BadNumbers, BadStudy, BadTable, BadText, BadWatch, BadWorths,
                              NoArm, NoEnd, NoSign, NoStudy, Nothing, NotWithin, Over, PeekError, Refuted, TooMany, Unsure)
from peekproof.halls import Hall
from peekproof.late import Late
from peekproof.lost import Lost
from peekproof.ratios import Ratio
from peekproof.studies import Study
from tests.desk_oracle import DEEDS, Plain
from tests.line_oracle import line_word
from tests.support import ANY_VALUES, Case, bent, drawn_study, rng_of

COIN = "keep coin crowd hit 1/4 miss 3/4 / hit 3/4 miss 1/4"
TWO = "keep two watch coin : hit miss / lit dark / one coin : two dark / two coin : lit dark"
ANY = "keep any board ( any x y )"
BASE = (COIN, TWO, "study s two coin coin", ANY)
LOOSE = "keep loose study coin : hit miss / lit dark / p coin : p lit | coin hit 0 miss 1 / hit 1 miss 0"


def told_desk(*lines):
    desk = Desk()
    desk.told(*BASE, *lines)
    return desk


class DeskTest(Case):
    def refused_line(self, line, error, fields, call, *lines):
        """The call raises BadLine at this line, from an error with these fields."""
        with self.assertRaises(BadLine) as caught:
            call(*lines)
        self.assertEqual(caught.exception.line, line)
        self.assertIs(caught.exception.error.__class__, error)
        self.assertEqual(vars(caught.exception.error), fields)
        self.assertIs(caught.exception.__cause__, caught.exception.error)

    def test_example(self):
        desk = Desk()
        self.assertEqual(desk.told(
            "keep coin crowd hit 1/4 miss 3/4 / hit 3/4 miss 1/4",
            "keep two watch coin : hit miss / lit dark / one coin : two dark / two coin : lit dark", "study s two coin coin",
            "keep any board ( any x y )", "greatest s", "least s", "open any x s y s", "see x hit", "fear", "hope", "would x miss y -"),
            ("ok", "ok", "ok", "ok", "9/16", "1/16", "207/256", "two", "57/64", "19/64", "57/64 9/16 0"))
        self.refused_line(1, NoStudy, {"name": "z"}, desk.told, "drop any", "see z hit")
        self.assertTrue("any" in desk)

    def test_names_and_values(self):
        desk = Desk()
        self.assertEqual((len(desk), list(desk), desk.told("names"), desk.told(), desk.deeds), (0, [], ("-",), (), ()))
        desk.told(*BASE)
        self.assertEqual((len(desk), list(desk), desk("names"), "s" in desk), (4, ["any", "coin", "s", "two"], "any coin s two", True))
        self.assertEqual(desk.value_of("any"), Board.read("( any x y )"))
        self.assertEqual(desk.value_of(name="s").watch, desk.value_of("two"))
        for value in [*ANY_VALUES, "y", "S"]:
            self.assertIs(value in desk, False)
            self.refused(Nothing, {}, desk.value_of, value)
        desk("keep any crowd hit 1")
        self.assertEqual((desk("show any"), len(desk)), ("hit 1", 4))
        desk("drop any")
        self.assertEqual((list(desk), "any" in desk), (["coin", "s", "two"], False))
        self.assertEqual(desk(line="keep a story -"), "ok")
        self.assertEqual(list(desk), ["a", "coin", "s", "two"])

    def test_each_ask_line(self):
        desk = told_desk("keep b2 board ( of 2 x y z )", LOOSE, "keep run watch coin : hit miss / lit / s coin : lit s",
                         "keep low crowd hit 0 miss 1")
        for line, answer in (("show any", "( any x y )"), ("show coin", COIN[16:]), ("show two", TWO[15:]), ("show s", f"{TWO[15:]} | coin {COIN[16:]}"),
                             ("after two hit", "two"), ("after two hit hit", "lit"), ("after two miss", "dark"), ("sure s", "yes"), ("sure loose", "trap"),
                             ("greatest s", "9/16"), ("worth s lit 2 dark 0", "9/8"), ("worth s lit 0 dark 3", "45/16"), ("least s", "1/16"),
                             ("least loose", "trap"), ("dearest s", "7/4"), ("dearest loose", "endless"), ("soonest s", "seldom 9/16"),
                             ("soonest loose", "1"), ("shape s", "1/16 15/16 / 9/16 7/16"), ("form b2 x 1/2 y 1/2 z 1/2", "1/2"),
                             ("form any x 1 y 0 q 1/3", "1"), ("worst b2 x 1/2 y 1/2 z 1/2", "3/4"), ("tied 2 x 1/2 y 1/2", "1/2"),
                             ("within two run", "yes"), ("within run two", "row hit"), ("lead run two coin coin", "1"),
                             ("lead two run coin low", "0")):
            self.assertEqual(desk(line), answer, line)
        desk.told("keep far study coin : hit miss / card : up down / lit dark / a coin : b dark / b card : lit b | coin hit 1/2 miss 1/2 "
                  "| card up 0 down 1 / up 1 down 0")
        self.assertEqual((desk("sure far"), desk("least far"), desk("dearest far")), ("trap hit", "trap hit", "endless"))
        self.assertEqual(desk.told("open any x s y far", "fear", "peak", "likely", "story", "lasting", "lit", "place x", "choices y", "would x hit x -"),
                         ("25/32", "25/32", "25/32", "1", "-", "endless", "no", "one", "hit miss", "25/32 7/8 1/2"))
        self.assertEqual(desk.told("stop y", "hope", "lasting", "choices y", "see x hit", "story", "likely", "see x hit", "lit", "place x"),
                         ("9/16", "1/16", "7/4", "-", "two", "y - x hit", "3/4", "lit", "yes", "lit"))
        self.assertEqual(desk.told("back", "back", "back", "again", "fear", "peak", "place y"), ("3/4", "9/16", "25/32", "9/16", "9/16", "1", "a"))

    def test_each_deed_line(self):
        desk = told_desk("keep table table hit hit 1/2 miss 1/2 ; miss hit 0 miss 1",
                         "keep outer watch t : lit dark / lit dark / p t : lit q / q t : lit dark", "keep free crowd lit 1 dark 0 / lit 0 dark 1",
                         "study o outer t free")
        self.assertEqual(desk.told("nest n o t s", "flat f o t s", "misread m s table", "lose l s 1", "repeat r s 1", "delay d s 2"), ("ok",) * 6)
        study = desk.value_of("s")
        self.assertEqual((desk.value_of("l"), desk.value_of("d")), (Lost(study, 1), Late(study, 2)))
        self.assertIsInstance(desk.value_of("l"), Lost)
        self.assertEqual(desk.told("greatest n", "greatest f", "greatest m", "greatest l", "greatest r", "least m"),
                         ("207/256", "207/256", "9/64", "27/32", "3/4", "1/64"))
        self.assertEqual(desk.told("open any x l y s", "turn any", "see x hit.lost", "choices x", "stop x", "back", "again"),
                         ("477/512", "477/512", "one.l0", "hit miss", "9/16", "207/256", "9/16"))
        self.assertEqual(desk("open any y s x s"), "207/256")
        self.assertEqual(desk.told("story", "peak"), ("-", "207/256"))

    def test_nothing_ahead_of_other_errors(self):
        desk = told_desk()
        for line in ("drop q", "study a q coin coin", "study a two coin q", "study a any coin q", "study a two none q", "nest a q coin s", "nest a s coin q",
                     "nest a any coin q", "flat a q coin s", "flat a s x q", "misread a q coin", "misread a s q", "misread a any q", "lose a q 9",
                     "repeat a q 9", "delay a q 9", "open q x s", "open any x q", "open coin x q", "open any y s z q", "see x hit", "stop x", "back",
                     "again", "turn any", "turn q", "turn coin", "show q", "after q hit", "sure q", "greatest q", "worth q lit 5", "least q", "dearest q",
                     "soonest q", "shape q", "form q x 1", "worst q x 5", "within q two", "within two q", "within coin q", "lead q two coin coin",
                     "lead two q coin coin", "lead two two coin q", "lead coin two coin q", "fear", "peak", "hope", "likely", "story", "lasting", "lit",
                     "place x", "choices x", "would x hit"):
            self.refused_line(0, Nothing, {}, desk, line)
        desk.told("open any x s y s")
        self.refused_line(0, Nothing, {}, desk, "turn q")
        self.refused_line(0, Nothing, {}, desk, "back")
        self.refused_line(0, Nothing, {}, desk, "again")
        self.assertEqual(desk.told("tied 1 q 1/2", "would x hit", "place y"), ("1/2", "207/256 57/64", "one"))

    def test_errors_of_the_parts(self):
        desk = told_desk(LOOSE, "open any x s y s", "keep sevens crowd hit 1")
        desk.told("keep free study t : lit dark / lit / p t : lit p | t lit 1 dark 0")
        for line, error, fields in (("study a any coin coin", BadStudy, {"part": "watch"}), ("study a two coin any", BadStudy, {"part": "crowds"}),
                                    ("study a two card coin", BadStudy, {"part": "crowds"}), ("study a two coin sevens", BadStudy, {"part": "signs"}),
                                    ("nest a two coin s", BadStudy, {"part": "study"}), ("nest a s coin two", BadNest, {"part": "inners"}),
                                    ("flat a s card s", NoArm, {"name": "card"}), ("flat a s coin s", BadNest, {"part": "ends"}),
                                    ("misread a two coin", BadStudy, {"part": "study"}), ("misread a s coin", BadTable, {"part": "tables"}),
                                    ("lose a two 9", BadStudy, {"part": "study"}), ("lose a s 3", BadNumbers, {"part": "most"}),
                                    ("delay a s 3", BadNumbers, {"part": "most"}), ("repeat a s 3", BadNumbers, {"part": "most"}),
                                    ("open any x two y s", BadHall, {"part": "studies"}), ("open two x s", BadBoard, {"part": "board"}),
                                    ("open any x s", NoStudy, {"name": "y"}), ("see q hit", NoStudy, {"name": "q"}), ("see x up", NoSign, {"name": "up"}),
                                    ("stop q", NoStudy, {"name": "q"}), ("turn two", BadBoard, {"part": "other"}), ("after any hit", BadWatch, {"part": "watch"}),
                                    ("after s hit", BadWatch, {"part": "watch"}), ("after two up", NoSign, {"name": "up"}),
                                    ("after two miss hit", NoSign, {"name": "hit"}), ("sure two", BadStudy, {"part": "study"}),
                                    ("greatest any", BadStudy, {"part": "study"}), ("worth s lit 1", BadWorths, {"part": "worths"}),
                                    ("worth s lit -1 dark 0", BadWorths, {"part": "worths"}), ("least two", BadStudy, {"part": "study"}),
                                    ("dearest two", BadStudy, {"part": "study"}), ("soonest any", BadStudy, {"part": "study"}),
                                    ("shape any", BadStudy, {"part": "study"}), ("form two x 1", BadBoard, {"part": "board"}),
                                    ("form any x 1", BadNumbers, {"part": "y"}), ("form any x 2 y 1", BadNumbers, {"part": "x"}),
                                    ("worst s x 1", BadBoard, {"part": "board"}), ("tied 3 x 1", BadNumbers, {"part": "many"}),
                                    ("tied 0 x 1", BadNumbers, {"part": "many"}), ("tied 1 x 2", BadNumbers, {"part": "ratios"}),
                                    ("within s two", BadWatch, {"part": "one"}), ("within two any", BadWatch, {"part": "other"}),
                                    ("lead two two coin any", BadStudy, {"part": "crowds"}), ("lead any two coin coin", BadWatch, {"part": "one"}),
                                    ("place q", NoStudy, {"name": "q"}), ("choices q", NoStudy, {"name": "q"}), ("would q hit", NoStudy, {"name": "q"})):
            before = (list(desk), desk.deeds, desk("story"), desk("fear"))
            self.refused_line(0, error, fields, desk, line)
            self.refused_line(1, error, fields, desk.told, "names", line)
            self.refused_line(1, error, fields, desk.tried, "names", line)
            self.assertEqual((list(desk), desk.deeds, desk("story"), desk("fear")), before)
        with self.assertRaises(BadLine) as caught:
            desk("shape loose")
        self.assertIsInstance(caught.exception.error, Unsure)
        self.refused_line(1, Refuted, {"name": "z", "label": "dark"}, desk.tried, "open any x s y s z free", "see z dark")
        self.refused_line(2, Over, {"name": "x"}, desk.tried, "see x hit", "stop x", "see x hit")
        self.refused_line(1, NoEnd, {"name": "lit"}, desk.tried, "keep end study a : x / off / s a : off | a x 1", "soonest end")
        self.refused_line(2, TooMany, {"what": "steps", "most": 200}, desk.tried, "keep r study a : x / lit / s a : s | a x 1",
                          "open any x r y s", "would " + " ".join(["x x"] * 201))

    def test_texts_are_read_first(self):
        desk = told_desk()
        before = (list(desk), desk.deeds)
        self.refused(BadText, {"line": 2, "word": 0}, desk.told, "drop any", "see q q", "", "nothing")
        self.refused(BadText, {"line": 1, "word": 3}, desk.told, "drop any", "lose a s -1")
        self.refused(BadText, {"line": 0, "word": 1}, desk, "drop")
        self.refused(BadText, {"line": 1, "word": 5}, desk.tried, "drop any", "keep c crowd hit 1/2")
        for value in [value for value in ANY_VALUES if value != ""]:
            self.refused(BadText, {"line": 0, "word": 0}, desk, value)
            self.refused(BadText, {"line": 1, "word": 0}, desk.told, "drop any", value, None)
        self.assertEqual((list(desk), desk.deeds), before)

    def test_a_call_that_raises_changes_nothing(self):
        desk = told_desk("open any x s y s", "see x hit", "back", "see y hit", "stop x", "back")
        twin = told_desk("open any x s y s", "see x hit", "back", "see y hit", "stop x", "back")
        for lines in (("drop any", "open any x s y s"), ("see x hit", "stop y", "back", "drop q"), ("open any x s y s z s", "see z miss", "see z hit"),
                      ("keep any crowd hit 1", "turn any"), ("again", "again"), ("study s two coin coin", "lose s s 1", "greatest s", "lose s s 2",
                                                                                 "drop two", "drop two")):
            for call in (desk.told, desk.tried):
                with self.assertRaises(BadLine):
                    call(*lines)
                self.assertEqual(desk, twin)
                self.assertEqual(desk.deeds, twin.deeds)
        self.assertEqual(desk.told("again", "story", "peak"), ("3/4", "y hit x -", "57/64"))

    def test_tried(self):
        desk = told_desk("open any x s y s")
        before = desk.deeds
        self.assertEqual(desk.tried("see x hit", "story", "drop any", "names", "fear"),
                         ("two", "x hit", "ok", "coin s two", "57/64"))
        self.assertEqual((desk("story"), desk("peak"), list(desk), desk.deeds), ("-", "207/256", ["any", "coin", "s", "two"], before))
        self.refused_line(0, Nothing, {}, desk, "back")
        self.assertEqual(desk.tried(), ())

    def test_deeds(self):
        desk = told_desk()
        self.assertEqual(desk.deeds, BASE)
        desk.told("names", "open any x s y s", "fear", "see x hit", "back")
        desk("again")
        with self.assertRaises(BadLine):
            desk.told("stop x", "see x hit")
        desk.tried("stop x")
        self.assertEqual(desk.deeds, (*BASE, "open any x s y s", "see x hit", "back", "again"))
        again = Desk()
        again.told(*desk.deeds)
        self.assertEqual(again, desk)

    def test_equality(self):
        opened = ("open any x s y s",)
        desks = [Desk(), told_desk(), told_desk("drop coin"), told_desk("keep coin crowd hit 1"), told_desk(*opened), told_desk("open any y s x s"),
                 told_desk(*opened, "see x hit"), told_desk(*opened, "see x hit", "back"), told_desk(*opened, "stop x"),
                 told_desk(*opened, "keep all board ( all x y )", "turn all", "drop all"), told_desk("lose l s 1", "open any x l y s", "drop l"),
                 told_desk(*opened, "see x miss", "see y miss"), told_desk(*opened, "see y miss", "see x miss"), told_desk("open any x s y s z s")]
        for at, one in enumerate(desks):
            for place, other in enumerate(desks):
                self.assertIs(one == other, at == place, (at, place))
                self.assertIs(one != other, at != place)
        self.assertEqual(told_desk("keep any2 board x", "drop any2"), told_desk())
        # The same places, board, story and peak of other studies: one crowd has a needless corner.
        wide = "keep coin crowd hit 1/4 miss 3/4 / hit 1/2 miss 1/2 / hit 3/4 miss 1/4"
        one, other = (told_desk(line, "study s two coin coin", *opened, "see x hit", "drop coin", "drop s") for line in (COIN, wide))
        self.assertEqual((list(one), one.told("fear", "peak", "story", "place x")), (list(other), other.told("fear", "peak", "story", "place x")))
        self.assertNotEqual(one, other)
        self.assertEqual(told_desk(*opened, "stop x", "back"), told_desk(*opened))
        self.assertEqual(told_desk("keep c crowd hit 1/4 miss 3/4 / hit 3/4 miss 1/4 / hit 1/2 miss 1/2"),
                         told_desk("keep c crowd hit 3/4 miss 1/4 / hit 1/4 miss 3/4"))
        for value in [*ANY_VALUES, {}]:
            self.assertIs(desks[0] == value, False)

    def test_drawn_lines_against_the_parts(self):
        rng = rng_of(201)
        answered, refused, errors = {}, 0, set()
        for _ in range(60):
            desk, plain = Desk(), Plain()
            start = self.drawn_start(rng)
            desk.told(*start)
            for line in start:
                plain.answer(line)
            for _ in range(60):
                line = self.drawn_line(rng, plain)
                if line_word(line) is not None:
                    self.refused(BadText, {"line": 0, "word": line_word(line)}, desk, line)
                    continue
                try:
                    wanted = plain.answer(line)
                except PeekError as error:
                    refused += 1
                    errors.add(error.__class__.__name__)
                    with self.assertRaises(BadLine) as caught:
                        desk(line)
                    found = caught.exception.error
                    self.assertIs(found.__class__, error.__class__)
                    self.assertEqual(vars(found), vars(error))
                else:
                    self.assertEqual(desk(line), wanted, line)
                    first = line.split(" ")[0]
                    answered[first] = answered.get(first, 0) + 1
                self.assertEqual((list(desk), list(desk.deeds)), (sorted(plain.values), plain.lines))
                self.assertEqual({name: desk.value_of(name) for name in desk}, plain.values)
            if plain.hall is not None:
                self.assertEqual(desk.told("fear", "peak", "story"), (str(plain.hall.fear), str(plain.hall.peak), str(plain.hall.story)))
        self.assertEqual(len(answered), 40, sorted(answered))
        self.assertTrue(refused > 500 and len(errors) > 12, errors)

    def drawn_start(self, rng):
        lines = []
        for at in range(3):
            study = drawn_study(rng, rng.randint(1, 3), 2, {"coin": ("hit", "miss")})
            lines += [f"keep s{at} study {study}", f"keep w{at} watch {study.watch}", f"keep c{at} crowd {study.crowds[0][1]}"]
        return [*lines, "keep b0 board ( any x y )", "keep b1 board x", "keep b2 board ( of 2 x y z )", "keep t0 table hit hit 1/2 miss 1/2 ; miss hit 0 miss 1",
                "keep o0 study x : lit dark / lit dark / p x : lit p | x lit 1/2 dark 1/2"]

    def drawn_line(self, rng, plain):
        kinds = {"NAME": ["x", "y", "z"], "S": ["s0", "s1", "s2", "n0", "n1"], "W": ["w0", "w1", "w2"], "C": ["c0", "c1", "c2"], "B": ["b0", "b1", "b2"],
                 "K": ["n0", "n1"], "SIGN": ["hit", "miss"], "N": ["0", "1", "2", "3"], "R": ["0", "1", "1/2", "2/3", "-1"],
                 "T": ["t0"], "ANY": sorted(plain.values) + ["q"], "STEP": ["hit", "miss", "-"]}
        line = rng.choice([
            "keep K story x hit y -", "keep K gates a 1/2", "keep K crowd hit 1/3 miss 2/3", "drop ANY", "study K W coin C", "nest K o0 x S",
            "flat K o0 x S", "misread K S T", "lose K S N", "repeat K S N", "delay K S N", "open B x S y S z S", "open B x S y S", "see NAME SIGN",
            "see NAME SIGN", "see NAME SIGN", "stop NAME", "back", "again", "turn B", "names", "show ANY", "after W SIGN SIGN", "after W SIGN", "sure S",
            "greatest S", "worth S lit R dark R", "least S", "dearest S", "soonest S", "shape S", "form B x R y R z R", "worst B x R y R z R",
            "tied N x R y R", "within W W", "lead W W coin C", "fear", "peak", "hope", "likely", "story", "lasting", "lit", "place NAME", "choices NAME",
            "would NAME STEP NAME STEP"])
        words = [rng.choice(kinds[word]) if word in kinds else word for word in line.split(" ")]
        if rng.randrange(12) == 0:
            at = rng.randrange(len(words))
            if words[at] in plain.values or words[at] == "q":
                words[at] = rng.choice(kinds["ANY"])
        line = " ".join(words)
        return bent(rng, line, ["x", "hit", "-", "s0"]) if rng.randrange(15) == 0 else line

    def test_values_of_a_desk(self):
        desk = told_desk("open any x s y s")
        self.assertIsInstance(desk.value_of("s"), Study)
        self.assertEqual(Hall([("x", desk.value_of("s"))], Board.read("x")).fear, Ratio(9, 16))
        self.assertEqual(set(DEEDS) & {line.split(" ")[0] for line in desk.deeds}, {"keep", "study", "open"})
        self.assertTrue(issubclass(BadCrowd, PeekError) and issubclass(NotWithin, PeekError))


if __name__ == "__main__":
    unittest.main()

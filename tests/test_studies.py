import unittest

from peekproof.crowds import Crowd
from peekproof.errors import BadCrowd, BadNumbers, BadStudy, BadText, NoArm, NoSign, NoState, TooMany
from peekproof.ratios import Ratio
from peekproof.studies import Study
from peekproof.watches import Watch
from tests.support import ANY_VALUES, NO_TEXTS, Case, bent, drawn_study, rng_of
from tests.watch_oracle import study_word

COIN = ("sale", "miss")
HALF = Ratio(1, 2)
TURN = Watch({"coin": COIN}, ["lit", "dark"], [("one", "coin", ("dark", "two")), ("two", "coin", ("lit", "dark"))])
TURNING = Crowd.between(COIN, Ratio(1, 4), Ratio(3, 4))
WIDE = Watch({"coin": COIN, "die": ("a", "b", "c")}, ["lit", "dark", "dim"],
             [("p", "die", ("q", "r", "p")), ("r", "coin", ("dim", "lit")), ("q", "coin", ("dark", "s")),
              ("s", "die", ("lit", "lit", "dim")), ("u", "coin", ("u", "u"))])
FEW = {"die": Crowd(("a", "b", "c"), [[HALF, 0, HALF], [1, 0, 0]]), "coin": Crowd(COIN, [[1, 0]])}


class StudyTest(Case):
    def setUp(self):
        self.study = Study(TURN, {"coin": TURNING})
        self.few = Study(WIDE, FEW)

    def test_example(self):
        self.assertEqual(repr([self.study.ends, list(self.study.rows(2))]),
                         "[('dark', 'lit'), [('sale',), ('miss', 'sale'), ('miss', 'miss')]]")

    def test_attributes(self):
        few = self.few
        self.assertEqual((few.states, few.ends, few.watch), (("p", "q"), ("dark",), WIDE))
        self.assertEqual([arm for arm, _ in few.crowds], ["die", "coin"])
        self.assertEqual((Study.MOST, len(few), list(few)), (40, 2, ["p", "q"]))
        self.assertEqual((self.study.crowds, self.study.is_sure), ((("coin", TURNING),), True))
        self.assertIs(self.few.is_sure, True)
        self.assertIs(Study(WIDE, {**FEW, "die": Crowd(("a", "b", "c"), [[0, 0, 1]])}).is_sure, False)
        self.assertEqual(Study(crowds={"coin": TURNING}, watch=TURN), self.study)

    def test_states_come_about_in_the_order_of_possible_rows(self):
        rng = rng_of(22)
        for _ in range(100):
            study = drawn_study(rng, rng.randint(1, 6), ends=("lit", "dark", "dim"))
            rows = sorted(study.rows(6), key=len)
            places, ends = [study.watch.first], []
            for length in range(1, 7):
                for row in study.rows(length):
                    place = study.watch.after(row)
                    if len(row) == length:
                        (places if place in study.watch else ends).append(place)
            self.assertEqual(study.states, tuple(dict.fromkeys(places)))
            self.assertEqual(study.ends, tuple(dict.fromkeys(ends)))
            self.assertTrue(rows)

    def test_what_is_passed_is_copied(self):
        crowds = {"coin": TURNING}
        study = Study(TURN, crowds)
        crowds["coin"] = None
        self.assertEqual(study, self.study)

    def test_bad_parts(self):
        other = Crowd(("miss", "sale"), [[1, 0]])
        for value in ANY_VALUES:
            self.refused(BadStudy, {"part": "watch"}, Study, value, value)
            self.refused(BadStudy, {"part": "crowds"}, Study, TURN, value)
            self.refused(BadStudy, {"part": "crowds"}, Study, TURN, {"coin": value})
        for crowds in ({"coin": TURNING, "die": TURNING}, {"die": TURNING}, {}, [("coin", TURNING)],
                       {"coin": other, "lit": other}, {"coin": other, None: None}):
            self.refused(BadStudy, {"part": "crowds"}, Study, TURN, crowds)
        self.refused(BadStudy, {"part": "signs"}, Study, TURN, {"coin": other})
        self.refused(BadStudy, {"part": "signs"}, Study, TURN, {"coin": Crowd(["sale"], [[1]])})

    def test_states(self):
        few = self.few
        self.assertEqual((few.arm_of("p"), few.crowd_of("p"), few.corners_of("q"), few.possible_of("p")),
                         ("die", FEW["die"], ((1, 0),), ("a", "c")))
        self.assertEqual([few.place("p", sign) for sign in "abc"], ["q", "r", "p"])
        self.assertEqual(few.place("q", "miss"), "s")
        for value in [*ANY_VALUES, "r", "s", "u", "lit", "dark"]:
            for call in (few.arm_of, few.crowd_of, few.corners_of, few.possible_of, lambda x: few.place(x, None)):
                self.refused(NoState, {"name": value}, call, value)
            self.assertIs(value in few, False)
        for value in [*ANY_VALUES, "sale", "p"]:
            self.refused(NoSign, {"name": value}, few.place, "p", value)
        self.assertTrue("p" in few and "q" in few)

    def test_with_crowd(self):
        low = Crowd.just(COIN, [0, 1])
        changed = self.few.with_crowd("coin", low)
        self.assertEqual((changed.states, changed.crowd_of("q")), (("p", "q", "s"), low))
        self.assertEqual(self.few.states, ("p", "q"))
        for value in ANY_VALUES:
            self.refused(BadCrowd, {"part": "crowd"}, self.few.with_crowd, value, value)
            self.refused(NoArm, {"name": value}, self.few.with_crowd, value, TURNING)
        self.refused(NoArm, {"name": "p"}, self.few.with_crowd, "p", Crowd(["x"], [[1]]))
        self.refused(BadStudy, {"part": "signs"}, self.few.with_crowd, "die", low)

    def test_rows(self):
        self.assertEqual(list(self.study.rows(0)), [()])
        self.assertEqual(list(self.study.rows(1)), [("sale",), ("miss",)])
        self.assertEqual(list(self.study.rows(12)), list(self.study.rows(2)))
        self.assertEqual(list(self.few.rows(3)), [("a", "sale"), ("c", "a", "sale"), ("c", "c", "a"), ("c", "c", "c")])
        for value in [value for value in ANY_VALUES if type(value) is not int] + [-1]:
            self.refused(BadNumbers, {"part": "many"}, lambda: list(self.study.rows(value)))
        for value in (13, 10 ** 20):
            self.refused(TooMany, {"what": "many", "most": 12}, lambda: list(self.study.rows(value)))

    def test_rows_of_drawn_studies(self):
        rng = rng_of(23)
        for _ in range(60):
            study = drawn_study(rng, rng.randint(1, 4))
            order = {sign: at for _, signs in study.watch.arms for at, sign in enumerate(signs)}
            rows = [()]
            for _ in range(4):
                rows = [longer for row in rows for longer in (
                    [(*row, sign) for sign in study.possible_of(study.watch.after(row))]
                    if study.watch.after(row) in study else [row])]
            self.assertEqual(list(study.rows(4)), sorted(rows, key=lambda row: [order[sign] for sign in row]))

    def test_equality(self):
        self.assertEqual(self.study, Study(TURN, {"coin": Crowd(COIN, TURNING.corners)}))
        self.assertNotEqual(self.study, Study(TURN, {"coin": Crowd(COIN, TURNING.corners[::-1])}))
        self.assertNotEqual(self.study, Study(TURN, {"coin": TURNING | Crowd.just(COIN, [HALF, HALF])}))
        self.assertNotEqual(self.study, Study(TURN.begun("two"), {"coin": TURNING}))
        self.assertNotEqual(self.study, self.few)
        for value in [*ANY_VALUES, TURN]:
            self.assertIs(self.study == value, False)


class StudyTextTest(Case):
    def test_written_and_read(self):
        study = Study(TURN, {"coin": TURNING})
        self.assertEqual(str(study), "coin : sale miss / lit dark / one coin : dark two / two coin : lit dark | "
                                     "coin sale 1/4 miss 3/4 / sale 3/4 miss 1/4")
        rng = rng_of(24)
        for _ in range(80):
            study = drawn_study(rng, rng.randint(1, 6))
            again = Study.read(str(study))
            self.assertEqual(again, study)
            self.assertEqual((str(again), again.states), (str(study), study.states))

    def test_words_that_cannot_stand(self):
        start = "c : x y / lit / s c : lit s"
        for text, word in (("", 0), ("|", 0), (start, 12), (start + " |", 13), (start + " | d", 13), (start + " | c", 14),
                           (start + " | c x", 15), (start + " | c x 1", 16), (start + " | c x 1 |", 16),
                           (start + " | c x 1 y", 17), (start + " | c x 1 y |", 17), (start + " | c x 1 y 0 |", 18),
                           (start + " | c y 1 x 0", 18), (start + " | c y 1 x 0 |", 18), (start + " | c x 1 z 0 | c", 18),
                           (start + " | c x 1 y 0 z 0", 20), (start + " | c x 1 x 0", 16), (start + " | | c x 1 y 0", 13),
                           (start + " | c | x 1 y 0", 14), (start + " |  c", 13), (start + " | c ", 14),
                           ("c : x y / lit / s c : lit | c x 1 y 0", 11), ("c : x y / lit / s c : q s | c x 1 y 0", 10),
                           ("c : x y / d : z / lit / s c : s s | c x 1 y 0", 16), (start + " | c x 2 y 0", 15),
                           (start + " | c x 1 y 0 /", 19), (start + " | c x 1 y 0 / y 0", 19)):
            self.assertEqual(study_word(text.split(" ")), word, text)
            self.refused_text(word, Study.read, text)
        for value in NO_TEXTS:
            self.refused(BadText, {"line": 0, "word": 0}, Study.read, value)

    def test_bent_texts(self):
        rng = rng_of(25)
        words = ["coin", "die", "hit", "a", "q0", "lit", "/", ":", "", "A", "|", "1", "0", "1/2", "1/3"]
        for _ in range(4000):
            text = str(drawn_study(rng, rng.randint(1, 2), 2))
            for _ in range(rng.randint(1, 2)):
                text = bent(rng, text, words)
            told = study_word(text.split(" "))
            if told is None:
                self.assertEqual(str(Study.read(text)), text)
            else:
                self.refused_text(told, Study.read, text)


if __name__ == "__main__":
    unittest.main()

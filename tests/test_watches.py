import unittest

from peekproof.errors import BadNumbers, BadText, BadWatch, NoEnd, NoSign, NoState, TooMany, UnlikeArms, UnlikeSigns
from peekproof.watches import Joined, Watch
from tests.support import ANY_VALUES, NO_TEXTS, Case, bent, drawn_watch, rng_of
from tests.watch_oracle import watch_word

COIN = {"coin": ("hit", "miss")}
TWO = [("one", "coin", ("two", "dark")), ("two", "coin", ("lit", "dark"))]
ARMS = {"coin": ("hit", "miss"), "die": ("a", "b", "c"), "bell": ("ring",)}
TEXT = "coin : hit miss / lit dark / one coin : two dark / two coin : lit dark"


def line_watch(many, ends=("lit",)):
    """A watch of so many states, each of which leads to the next one or stays."""
    lines = [(f"q{at}", "coin", (f"q{at + 1}" if at < many - 1 else "lit", f"q{at}")) for at in range(many)]
    return Watch(COIN, ends, lines)


class WatchTest(Case):
    def setUp(self):
        self.watch = Watch(COIN, ["lit", "dark"], TWO)

    def test_attributes(self):
        watch = self.watch
        self.assertEqual((watch.arms, watch.ends, watch.states, watch.first),
                         ((("coin", ("hit", "miss")),), ("lit", "dark"), ("one", "two"), "one"))
        self.assertEqual((Watch.LIT, Watch.MOST, len(watch), list(watch)), ("lit", 200, 2, ["one", "two"]))
        self.assertEqual(Watch(states=[["a", "c", ["e"]]], ends=("e",), arms={"c": ["s"]}).arms, (("c", ("s",)),))

    def test_arms_are_ordered_as_states_ask_them(self):
        lines = [("x", "die", "xyz"), ("y", "bell", ["lit"]), ("z", "coin", ("x", "x")), ("w", "die", "xxx")]
        lines = [(state, arm, list(places)) for state, arm, places in lines]
        watch = Watch(ARMS, ["lit"], lines)
        self.assertEqual([arm for arm, _ in watch.arms], ["die", "bell", "coin"])

    def test_what_is_passed_is_copied(self):
        arms, ends, lines = {"coin": ["hit"]}, ["lit"], [["one", "coin", ["lit"]]]
        watch = Watch(arms, ends, lines)
        arms["coin"][0] = "q"
        arms["other"] = ["x"]
        ends.append("dark")
        lines[0][2][0] = "one"
        lines[0][0] = "two"
        self.assertEqual(str(watch), "coin : hit / lit / one coin : lit")

    def test_bad_arms(self):
        many = [f"n{at}" for at in range(13)]
        for arms in [*ANY_VALUES, {"A": ["a"]}, {1: ["a"]}, {None: ["a"]}, {"a": []}, {"a": "b"}, {"a": ["b", "b"]},
                     {"a": many}, {"a": ["b"], "c": None}, {"a": [[]]}, {("a",): ["b"]}, [("a", ["b"])]]:
            self.refused(BadWatch, {"part": "arms"}, Watch, arms, None, None)
        self.assertEqual(len(Watch({"a": many[:12]}, ["e"], [("x", "a", ["e"] * 12)]).signs_of("x")), 12)

    def test_bad_ends(self):
        many = [f"n{at}" for at in range(10)]
        for ends in [*ANY_VALUES, ["a", "a"], many, ["A"], [[]], "lit", {"lit": 1}]:
            self.refused(BadWatch, {"part": "ends"}, Watch, COIN, ends, None)
        self.assertEqual(len(Watch(COIN, many[:9], [("x", "coin", ("x", "x"))]).ends), 9)

    def test_bad_states(self):
        for lines in [*ANY_VALUES, [("x", "coin")], [("x", "coin", (), 1)], ["abc"], [("X", None, None)], [(None, 1, 2)],
                      [([], 1, 2)], [("lit", None, None)], [("dark", None, None)], [("x", None, None)] * 2,
                      [("x", None, None), None], {"x": 1}]:
            self.refused(BadWatch, {"part": "states"}, Watch, COIN, ["dark"], lines)

    def test_bad_asks(self):
        for arm in [*ANY_VALUES, "hit", ["coin"]]:
            self.refused(BadWatch, {"part": "asks"}, Watch, COIN, ["dark"], [("q", arm, None)])
        both = {"coin": ["hit"], "die": ["a"]}
        self.refused(BadWatch, {"part": "asks"}, Watch, both, ["dark"], [("q", "coin", None)])

    def test_bad_places(self):
        for places in [*ANY_VALUES, ["q"], ["q"] * 3, ["q", "lit"], ["q", []], ["q", "coin"], "qq", ["q", "hit"]]:
            self.refused(BadWatch, {"part": "places"}, Watch, COIN, ["dark"], [("q", "coin", places)])

    def test_most_states(self):
        self.assertEqual(len(line_watch(200)), 200)
        self.refused(TooMany, {"what": "states", "most": 200}, line_watch, 201)
        lines = [(f"q{at}", "coin", ("nowhere", "lit")) for at in range(201)]
        self.refused(BadWatch, {"part": "places"}, Watch, COIN, ["lit"], lines)

    def test_states_and_places(self):
        watch = self.watch
        self.assertEqual((watch.arm_of("two"), watch.signs_of("two"), watch.places_of("two")),
                         ("coin", ("hit", "miss"), ("lit", "dark")))
        self.assertEqual((watch.place("one", "hit"), watch.place("one", "miss")), ("two", "dark"))
        for value in [*ANY_VALUES, "lit", "dark", "coin", "hit"]:
            for call in (watch.arm_of, watch.signs_of, watch.places_of, watch.begun, lambda x: watch.place(x, None)):
                self.refused(NoState, {"name": value}, call, value)
            self.assertIs(value in watch, False)
        for value in [*ANY_VALUES, "one", "coin"]:
            self.refused(NoSign, {"name": value}, watch.place, "one", value)
        self.assertTrue("one" in watch and "two" in watch)

    def test_rows(self):
        watch = self.watch
        self.assertEqual([watch.after(row) for row in ([], ("hit",), ["hit", "miss"], ["hit", "hit"])],
                         ["one", "two", "dark", "lit"])
        self.assertEqual([watch.lit_by(row) for row in ([], ["hit"], ["hit", "hit"], ("hit", "hit", None, []))],
                         [None, None, 2, 2])
        self.assertIsNone(watch.lit_by(["miss", "nothing", 5]))
        for value in [value for value in ANY_VALUES if not isinstance(value, (list, tuple))] + ["hit", {"hit": 1}]:
            self.refused(BadWatch, {"part": "row"}, watch.after, value)
            self.refused(BadWatch, {"part": "row"}, watch.lit_by, value)
        for value in ANY_VALUES:
            self.refused(NoSign, {"name": value}, watch.after, ["hit", value, "miss"])
            self.refused(NoSign, {"name": value}, watch.lit_by, ["hit", value, "miss"])
            self.refused(NoSign, {"name": value}, watch.after, ["hit", "hit", value])
        self.refused(NoSign, {"name": "hit"}, watch.after, ["miss", "hit"])

    def test_reached_and_begun(self):
        lines = [("a", "coin", ("c", "a")), ("b", "coin", ("lit", "a")), ("c", "coin", ("d", "c")),
                 ("d", "coin", ("a", "lit"))]
        watch = Watch(COIN, ["lit"], lines)
        self.assertEqual(watch.reached(), ("a", "c", "d"))
        begun = watch.begun("c")
        self.assertEqual((begun.states, begun.first, begun.reached()), (("c", "a", "b", "d"), "c", ("c", "d", "a")))
        self.assertEqual(begun.places_of("b"), ("lit", "a"))
        self.assertEqual(watch.begun("a"), watch)
        both = Watch({"coin": ["x"], "die": ["y"]}, ["lit"], [("a", "coin", ["b"]), ("b", "die", ["lit"])])
        self.assertEqual([arm for arm, _ in both.begun("b").arms], ["die", "coin"])

    def test_rows_to_an_end(self):
        self.assertEqual(list(self.watch.rows_to("lit", 6)), [("hit", "hit")])
        self.assertEqual(list(self.watch.rows_to("dark", 2)), [("miss",), ("hit", "miss")])
        self.assertEqual(list(self.watch.rows_to("dark", 1)), [("miss",)])
        self.assertEqual(list(self.watch.rows_to("lit", 0)), [])
        for value in [value for value in ANY_VALUES if type(value) is not int] + [-1, 7]:
            self.refused(BadNumbers, {"part": "most"}, lambda: list(self.watch.rows_to(None, value)))
        for value in [*ANY_VALUES, "one", "hit"]:
            self.refused(NoEnd, {"name": value}, lambda: list(self.watch.rows_to(value, 6)))
        dim = Watch(COIN, ["dark"], [("q", "coin", ("dark", "q"))])
        self.refused(NoEnd, {"name": "lit"}, lambda: list(dim.rows_to("lit", 6)))

    def test_rows_to_an_end_of_drawn_watches(self):
        rng = rng_of(13)
        for _ in range(60):
            watch = drawn_watch(rng, rng.randint(1, 5), ARMS)
            rows = [((), watch.first)]
            found = {end: [] for end in watch.ends}
            for _ in range(4):
                rows = [((*row, sign), watch.place(state, sign)) for row, state in rows if state in watch
                        for sign in watch.signs_of(state)]
                for row, place in rows:
                    if place in found:
                        found[place].append(row)
            for end in watch.ends:
                self.assertEqual(list(watch.rows_to(end, 4)), found[end])
                self.assertTrue(all(watch.after(row) == end for row in found[end]))

    def test_equality(self):
        self.assertEqual(self.watch, Watch({"coin": ["hit", "miss"]}, ("lit", "dark"), [list(line) for line in TWO]))
        for other in (Watch({"coin": ["miss", "hit"]}, ["lit", "dark"], TWO), Watch(COIN, ["dark", "lit"], TWO),
                      self.watch.begun("two"), Watch({"die": ("hit", "miss")}, ["lit", "dark"],
                                                     [(state, "die", places) for state, _, places in TWO]),
                      Watch(COIN, ["lit", "dark"], [TWO[0], ("two", "coin", ("lit", "lit"))])):
            self.assertNotEqual(self.watch, other)
        lines = [("a", "coin", ("b", "b")), ("b", "die", ("a", "lit"))]
        arms = {"coin": ("x", "y"), "die": ("x", "y")}
        self.assertNotEqual(Watch(arms, ["lit"], lines + [("c", "coin", ("a", "a"))]),
                            Watch(arms, ["lit"], lines + [("c", "die", ("a", "a"))]))
        for value in ANY_VALUES:
            self.assertIs(self.watch == value, False)


class WatchTextTest(Case):
    def test_written_and_read(self):
        self.assertEqual(str(Watch(COIN, ["lit", "dark"], TWO)), TEXT)
        rng = rng_of(14)
        for _ in range(100):
            watch = drawn_watch(rng, rng.randint(1, 8), ARMS)
            self.assertEqual(Watch.read(str(watch)), watch)
            self.assertEqual(str(Watch.read(str(watch))), str(watch))
        self.assertEqual(Watch.read(str(line_watch(200))), line_watch(200))

    def test_words_that_cannot_stand(self):
        twelve = " ".join(f"n{at}" for at in range(12))
        for text, word in (
                ("", 0), ("A", 0), ("c", 1), ("c x", 1), ("c /", 1), ("c :", 2), ("c : /", 2), ("c : x", 3),
                ("c : x x", 3), (f"c : {twelve} q", 14), (f"c : {twelve} /", 15), ("c : x /", 4), ("c : x / c :", 5),
                ("c : x / c", 5), ("c : x / c /", 6), ("c : x / c c", 5), ("c : x / lit d : x", 6),
                ("c : x / lit / lit", 6), ("c : x / e / lit", 6), ("c : x / e / e", 6), ("c : x / e / s", 7),
                ("c : x / e / s d", 7), ("c : x / e / s c", 8), ("c : x / e / s c e", 8), ("c : x / e / s c :", 9),
                ("c : x / e / s c : E", 9), ("c : x / e / s c : q", 9), ("c : x / e / s c : e e", 10),
                ("c : x / e / s c : e /", 11), ("c : x / e / s c : e / s", 11), ("c : x / e / s c : q / t c :", 14),
                ("c : x / e / s c : q / t c : r", 9), ("c : x / e / s c : t / t c : r", 14),
                ("c : x / d : y / e / s d", 11), ("c : x / d : y / e / s c : e", 14),
                ("c : x / d : y / e / s c : q", 13), ("c : x / d : y / d c / c c : c / s d : c", 11),
                ("c : x / e1 e2 e3 e4 e5 e6 e7 e8 e9 e10", 13), ("c : x / e / s c : lit", 9),
                (str(line_watch(200)) + " /", 1206), (" " + TEXT, 0), (TEXT + " ", 19), (TEXT.replace(" / ", "  / "), 4)):
            self.assertEqual(watch_word(text.split(" ")), word, text)
            self.refused_text(word, Watch.read, text)
        for value in NO_TEXTS:
            self.refused(BadText, {"line": 0, "word": 0}, Watch.read, value)
        self.assertEqual(str(Watch.read("c : x / c / s c : c")), "c : x / c / s c : c")

    def test_bent_texts(self):
        rng = rng_of(15)
        words = ["coin", "die", "bell", "hit", "a", "q0", "q1", "lit", "dark", "/", ":", "", "A", "|", "q9"]
        for _ in range(4000):
            text = str(drawn_watch(rng, rng.randint(1, 3), ARMS))
            for _ in range(rng.randint(1, 2)):
                text = bent(rng, text, words)
            told = watch_word(text.split(" "))
            if told is None:
                self.assertEqual(str(Watch.read(text)), text)
            else:
                self.refused_text(told, Watch.read, text)


class JoinedTest(Case):
    def setUp(self):
        self.watch = Watch(COIN, ["lit", "dark"], TWO)

    def test_plain_case(self):
        once = Watch(COIN, ["lit"], [("x", "coin", ("lit", "x"))])
        both = self.watch & once
        self.assertIsInstance(both, Joined)
        self.assertEqual(str(both), "coin : hit miss / both one other none / s0 coin : s1 s2 / s1 coin : both other / "
                                    "s2 coin : other s2")
        self.assertEqual([both.pair_of(state) for state in both], [("one", "x"), ("two", "lit"), ("dark", "x")])
        self.assertEqual((both.one, both.other), (self.watch, once))
        self.assertEqual(both, Watch.read(str(both)))
        self.assertEqual(Watch.read(str(both)), both)
        self.assertEqual(Joined(one=self.watch, other=once), both)
        for value in [*ANY_VALUES, "both", "one"]:
            self.refused(NoState, {"name": value}, both.pair_of, value)

    def test_ends_are_listed_though_never_come_to(self):
        once = Watch(COIN, ["dark"], [("x", "coin", ("dark", "dark"))])
        self.assertEqual(str(once & once), "coin : hit miss / both one other none / s0 coin : none none")

    def test_errors(self):
        for value in ANY_VALUES:
            self.refused(BadWatch, {"part": "one"}, Joined, value, value)
            self.refused(BadWatch, {"part": "other"}, Joined, self.watch, value)
            self.refused(BadWatch, {"part": "other"}, lambda: self.watch & value)
        turned = Watch({"coin": ("miss", "hit")}, ["lit"], [("q", "coin", ("lit", "lit"))])
        self.refused(UnlikeSigns, {"label": "coin"}, lambda: self.watch & turned)
        one = Watch({"a": ["x"], "b": ["y"], "c": ["z"]}, ["lit"],
                    [("p", "c", ["q"]), ("q", "b", ["r"]), ("r", "a", ["lit"])])
        other = Watch({"a": ["x"], "b": ["w"], "c": ["w"]}, ["lit"],
                      [("p", "a", ["q"]), ("q", "b", ["r"]), ("r", "c", ["lit"])])
        self.refused(UnlikeSigns, {"label": "c"}, Joined, one, other)
        self.refused(UnlikeSigns, {"label": "b"}, Joined, other, one)

    def test_unlike_arms_are_told_as_standings_are_met(self):
        one = Watch({"a": ["x", "y"]}, ["lit"], [("p", "a", ["q", "r"]), ("q", "a", ["p", "lit"]), ("r", "a", ["r", "r"])])
        other = Watch({"a": ["x", "y"], "b": ["z"]}, ["lit"],
                      [("t", "a", ["u", "v"]), ("u", "a", ["w", "lit"]), ("v", "b", ["v"]), ("w", "b", ["w"])])
        self.refused(UnlikeArms, {"one": "r", "other": "v"}, Joined, one, other)
        self.refused(UnlikeArms, {"one": "p", "other": "v"}, Joined, one, other.begun("v"))

    def test_too_many_states(self):
        ring = Watch(COIN, ["lit"], [(f"q{at}", "coin", (f"q{(at + 1) % 14}", "lit")) for at in range(14)])
        wide = Watch(COIN, ["lit"], [(f"q{at}", "coin", (f"q{(at + 1) % 15}", "lit")) for at in range(15)])
        self.refused(TooMany, {"what": "states", "most": 200}, Joined, ring, wide)
        clock = Watch(COIN, ["lit"], [(f"q{at}", "coin", (f"q{(at + 1) % 8}", "lit")) for at in range(8)])
        dial = Watch(COIN, ["lit"], [(f"q{at}", "coin", (f"q{(at + 1) % 25}", "lit")) for at in range(25)])
        self.assertEqual(len(clock & dial), 200)

    def test_drawn_watches_see_the_same_signs(self):
        rng = rng_of(16)
        arms = {"die": ("a", "b", "c")}
        for _ in range(60):
            one, other = drawn_watch(rng, rng.randint(1, 4), arms), drawn_watch(rng, rng.randint(1, 4), arms)
            both = one & other
            self.assertEqual(both.states, tuple(f"s{at}" for at in range(len(both))))
            self.assertEqual(both.reached(), both.states)
            for _ in range(20):
                row = [rng.choice("abc") for _ in range(6)]
                place = [one.first, other.first]
                here = both.first
                for sign in row:
                    if here not in both:
                        break
                    here = both.place(here, sign)
                    place = [watch.place(at, sign) if at in watch else at for watch, at in zip((one, other), place)]
                    if here in both:
                        self.assertEqual(both.pair_of(here), tuple(place))
                    else:
                        lit = tuple(at == "lit" for at in place)
                        self.assertFalse(place[0] in one or place[1] in other)
                        told = {(True, True): "both", (True, False): "one", (False, True): "other"}
                        self.assertEqual(here, told.get(lit, "none"))


if __name__ == "__main__":
    unittest.main()

import unittest

from peekproof.costs import Costs
from peekproof.errors import BadCosts, BadText, BadWatch, NoSign, NoState
from peekproof.made import in_all
from peekproof.ratios import Ratio
from peekproof.watches import Watch
from tests.cost_oracle import cost_word
from tests.support import ANY_VALUES, NO_TEXTS, Case, bent, drawn_watch, rng_of

TWICE = Watch({"coin": ["hit", "miss"]}, ["lit"], [("start", "coin", ("one", "start")), ("one", "coin", ("lit", "start"))])
WIDE = Watch({"die": ("a", "b", "c"), "coin": ("hit", "a")}, ["lit", "dark"],
             [("p", "die", ("q", "r", "lit")), ("q", "coin", ("p", "dark")), ("r", "die", ("r", "r", "r")),
              ("s", "coin", ("s", "lit"))])
HALF = Ratio(1, 2)


def drawn_costs(rng, watch, spread=(0, 0, 1, 2, HALF, Ratio(3, 7))):
    return Costs(watch, {state: {sign: rng.choice(spread) for sign in watch.signs_of(state) if rng.randrange(3)}
                         for state in watch if rng.randrange(4)})


def all_costs(costs):
    return {(state, sign): costs[state, sign] for state in costs.watch for sign in costs.watch.signs_of(state)}


class CostsTest(Case):
    def test_example(self):
        some = Costs(TWICE, {"one": {"miss": HALF, "hit": 0}})
        self.assertEqual(repr([str(some), str(Costs.of(TWICE, {"miss": 2}) + some), str(some * 0)]),
                         "['one miss 1/2', 'start miss 2 ; one miss 5/2', '-']")
        self.refused(BadText, {"line": 0, "word": 4}, Costs.read, "one miss 1 ; start hit 1", TWICE)

    def test_what_is_told_and_what_is_left_out(self):
        costs = Costs(WIDE, {"s": {}, "r": {"c": 3, "a": HALF}, "q": {"a": Ratio(2)}})
        self.assertEqual(costs.watch, WIDE)
        told = {("r", "c"): 3, ("r", "a"): HALF, ("q", "a"): 2}
        self.assertEqual(all_costs(costs), {key: told.get(key, 0) for key in all_costs(costs)})
        self.all_ratios(all_costs(costs).values())
        self.assertEqual(Costs(table={}, watch=WIDE), Costs(WIDE, {"p": {"a": 0}}))

    def test_what_is_passed_is_copied(self):
        table = {"start": {"hit": 1}}
        costs = Costs(TWICE, table)
        table["start"]["hit"] = 5
        table["one"] = {"hit": 2}
        self.assertEqual(str(costs), "start hit 1")

    def test_bad_parts(self):
        for value in ANY_VALUES:
            self.refused(BadWatch, {"part": "watch"}, Costs, value, value)
            self.refused(BadWatch, {"part": "watch"}, Costs.each_trial, value)
            self.refused(BadWatch, {"part": "watch"}, Costs.of, value, value)
            self.refused(BadWatch, {"part": "watch"}, Costs.read, value, value)
        tables = [value for value in ANY_VALUES if value != {}] + [
            {"x": {}}, {"lit": {}}, {"p": {"hit": 1}}, {"q": {"b": 1}}, {"p": {"a": -1}}, {"p": {"a": True}},
            {"p": {"a": None}}, {"p": {"a": "1"}}, {"p": [("a", 1)]}, {"p": None}, {None: {}}, {"p": {None: 1}},
            {"p": {"a": Ratio(-1, 9)}}, {"p": {"a": 1.0}}, {"p": {"a": 1}, "q": {"a": False}}, {0: {}}]
        for table in tables:
            self.refused(BadCosts, {"part": "table"}, Costs, WIDE, table)
        signs = [value for value in ANY_VALUES if value != {}] + [
            {"p": 1}, {"x": 1}, {"a": -1}, {"a": True}, {"a": None}, {None: 1}, {"hit": 1, "miss": 1}, [("a", 1)]]
        for value in signs:
            self.refused(BadCosts, {"part": "signs"}, Costs.of, WIDE, value)

    def test_each_trial_and_signs(self):
        self.assertTrue(all(cost == 1 for cost in all_costs(Costs.each_trial(WIDE)).values()))
        costs = Costs.of(WIDE, {"a": HALF, "hit": 3})
        told = {"a": HALF, "hit": 3}
        self.assertEqual(all_costs(costs), {key: told.get(key[1], 0) for key in all_costs(costs)})
        self.assertEqual(Costs.of(WIDE, {}), Costs(WIDE, {}))
        self.assertEqual(Costs.of(watch=WIDE, signs={"b": 0}), Costs(WIDE, {}))

    def test_errors_of_an_item(self):
        costs = Costs.each_trial(WIDE)
        for value in [*ANY_VALUES, "lit", "die"]:
            self.refused(NoState, {"name": value}, lambda: costs[value, value])
        for value in [*ANY_VALUES, "hit", "p"]:
            self.refused(NoSign, {"name": value}, lambda: costs["p", value])
        self.refused(NoSign, {"name": "b"}, lambda: costs["q", "b"])

    def test_sums_and_products(self):
        rng = rng_of(44)
        for _ in range(60):
            watch = drawn_watch(rng, rng.randint(1, 4), {"die": ("a", "b", "c"), "coin": ("hit", "a")})
            one, other, ratio = drawn_costs(rng, watch), drawn_costs(rng, watch), rng.choice([0, 1, 2, HALF, Ratio(5, 3)])
            here, there = all_costs(one), all_costs(other)
            self.assertEqual(all_costs(one + other), {key: here[key] + there[key] for key in here})
            self.assertEqual(all_costs(one * ratio), {key: here[key] * ratio for key in here})
            self.assertEqual((one + other) * 2, one * 2 + other * 2)
            self.assertEqual(bool(one), any(cost != 0 for cost in here.values()))
            self.assertIs((one == other), here == there)
        some = Costs.each_trial(WIDE)
        for value in [*ANY_VALUES, WIDE]:
            self.refused(BadCosts, {"part": "other"}, lambda: some + value)
            self.assertIs(some == value, False)
        for value in [value for value in ANY_VALUES if value not in (0, 1) or value is True or value is False]:
            if not isinstance(value, Ratio):
                self.refused(BadCosts, {"part": "ratio"}, lambda: some * value)
        self.refused(BadCosts, {"part": "ratio"}, lambda: some * Ratio(-1, 2))
        self.refused(BadCosts, {"part": "watch"}, lambda: some + Costs.each_trial(TWICE))
        self.refused(BadCosts, {"part": "watch"}, lambda: some + Costs.each_trial(WIDE.begun("q")))
        self.assertNotEqual(Costs(TWICE, {}), Costs(WIDE, {}))
        self.assertEqual(Costs.each_trial(TWICE), Costs.each_trial(Watch.read(str(TWICE))))

    def test_no_costs(self):
        self.assertIs(bool(Costs(WIDE, {})), False)
        self.assertIs(bool(Costs(WIDE, {"s": {"hit": Ratio(1, 99)}})), True)
        self.assertIs(bool(Costs.each_trial(WIDE) * 0), False)


class CostsTextTest(Case):
    def test_written_and_read(self):
        self.assertEqual(str(Costs.of(WIDE, {"a": 1, "hit": HALF})),
                         "p a 1 ; q hit 1/2 a 1 ; r a 1 ; s hit 1/2 a 1")
        rng = rng_of(45)
        for _ in range(100):
            watch = drawn_watch(rng, rng.randint(1, 5), {"die": ("a", "b", "c"), "coin": ("hit", "a")})
            costs = drawn_costs(rng, watch)
            self.assertEqual(Costs.read(str(costs), watch), costs)
            self.assertEqual(str(Costs.read(str(costs), watch)), str(costs))
        self.assertEqual(Costs.read(text="-", watch=WIDE), Costs(WIDE, {}))

    def test_words_that_cannot_stand(self):
        long = "9" * 60
        for text, word in (("", 0), ("x", 0), ("lit a 1", 0), ("- -", 1), ("- ;", 1), ("- ", 1), ("; p a 1", 0), ("p", 1),
                           ("p a", 2), ("p a 0", 2), ("p a -1", 2), ("p a 2/4", 2), ("p a 1 a 1", 3), ("p b 1 a 1", 3),
                           ("p hit 1", 1), ("p a 1 q a 1", 3), ("p a 1 ;", 4), ("p a 1 ; p a 1", 4), ("s a 1 ;", 4),
                           ("s a 1 ; s", 4), ("s hit 1 a 1 ; p", 6), ("q a 1 ; p a 1", 4), ("p ; q a 1", 1),
                           ("p a 1 ; ; q a 1", 4), ("p a 1 ; -", 4), ("p c 1 ; q", 5), (" p a 1", 0), ("p a 1 ", 3),
                           (f"p a {long}9", 2), (f"p a 1/{long}9", 2), ("p -", 1), ("p a 1 c 1 c", 5)):
            self.assertEqual(cost_word(text.split(" "), WIDE), word, text)
            self.refused(BadText, {"line": 0, "word": word}, Costs.read, text, WIDE)
        self.assertEqual(Costs.read(f"p a {long}/2", WIDE)["p", "a"], Ratio(int(long), 2))
        for value in NO_TEXTS:
            self.refused(BadText, {"line": 0, "word": 0}, Costs.read, value, WIDE)

    def test_bent_texts(self):
        rng = rng_of(46)
        words = ["p", "q", "r", "s", "a", "b", "hit", "1", "0", "1/2", ";", "-", "", "q0", "q1"]
        refused = 0
        for _ in range(3000):
            watch = rng.choice([WIDE, drawn_watch(rng, 2, {"die": ("a", "b", "c"), "coin": ("hit", "a")})])
            text = str(drawn_costs(rng, watch))
            for _ in range(rng.randint(1, 2)):
                text = bent(rng, text, words)
            told = cost_word(text.split(" "), watch)
            if told is None:
                self.assertEqual(str(Costs.read(text, watch)), text)
            else:
                refused += 1
                self.refused(BadText, {"line": 0, "word": told}, Costs.read, text, watch)
        self.assertTrue(1000 < refused < 2900)

    def test_large_watches(self):
        watch = in_all(60)
        self.assertEqual(Costs.read(str(Costs.each_trial(watch)), watch), Costs.each_trial(watch))


if __name__ == "__main__":
    unittest.main()

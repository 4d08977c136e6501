import itertools
import unittest

from peekproof.boards import AllOf, AnyOf, AtLeast, Board, Named, Weighing
from peekproof.errors import BadBoard, BadNumbers, BadText, TooMany, Twice
from peekproof.ratios import Ratio
from tests import board_oracle
from tests.board_oracle import board_word, drawn_board, is_lit
from tests.study_oracle import number
from tests.support import ANY_VALUES, NO_TEXTS, Case, bent, rng_of

HALF = Ratio(1, 2)
X, Y, Z = Named("x"), Named("y"), Named("z")
MANY = [Named(f"n{at}") for at in range(61)]


def drawn_ratios(rng, board):
    return {name: rng.choice([0, 1, HALF, Ratio(rng.randint(0, 6), 6), Ratio(rng.randint(0, 99), 99)]) for name in board.names}


def tower(levels):
    board = Named("x")
    for _ in range(levels - 1):
        board = AnyOf(board)
    return board


class BoardTest(Case):
    def test_example(self):
        two = Board.read("( of 2 x y z )")
        self.assertEqual(repr([two({"x": 1, "y": Ratio(3, 8), "z": 0}), str(two.rest(["x"])), two.rest(dark=["x", "z"])]),
                         "[3/8, '( of 1 y z )', False]")

    def test_attributes(self):
        self.assertEqual((X.branches, X.weights, X.enough, X.names, X.levels, X.name), ((), (), 1, ("x",), 1, "x"))
        board = Weighing(3, (X, 2), [AllOf(Z, Y), 5])
        self.assertEqual((board.branches, board.weights, board.enough, board.names, board.levels),
                         ((X, AllOf(Z, Y)), (2, 5), 3, ("x", "z", "y"), 3))
        self.assertEqual([(kind.weights, kind.enough) for kind in (AnyOf(X, Y, Z), AllOf(X, Y, Z), AtLeast(2, X, Y, Z))],
                         [((1, 1, 1), 1), ((1, 1, 1), 3), ((1, 1, 1), 2)])
        self.assertEqual((len(board), list(board), "y" in board, "q" in board), (3, [X, AllOf(Z, Y)], True, False))
        for value in ANY_VALUES:
            self.assertIs(value in board, value == "x")
        self.assertEqual((Named(name="x"), list(X), len(X)), (X, [], 1))

    def test_equality(self):
        self.assertEqual(AnyOf(X, Y), AnyOf(X, Y))
        boards = [X, Y, AnyOf(X), AllOf(X), AtLeast(1, X), Weighing(1, (X, 1)), Weighing(1, (X, 2)), Weighing(2, (X, 2)),
                  AnyOf(X, Y), AnyOf(Y, X), AtLeast(1, X, Y), AtLeast(2, X, Y), AllOf(X, Y), AnyOf(AnyOf(X, Y)),
                  Weighing(1, (X, 1), (Y, 1)), AnyOf(AnyOf(X), Y)]
        for one, other in itertools.combinations(boards, 2):
            self.assertFalse(one == other or other == one)
            self.assertTrue(one != other)
        for value in ANY_VALUES:
            self.assertIs(AnyOf(X) == value, False)

    def test_bad_parts(self):
        for value in [*[value for value in ANY_VALUES if value != "x"], "X", "a.b", "abcdefghijklm", X]:
            self.refused(BadBoard, {"part": "name"}, Named, value)
        for call in (AnyOf, AllOf, lambda *branches: AtLeast(0, *branches), lambda *pairs: Weighing(0, *pairs)):
            self.refused(BadBoard, {"part": "branches"}, call)
            for value in [*ANY_VALUES, "x", (X,), (X, 0), (X, True), (X, 1, 1), (X, Ratio(1)), ("x", 1), (1, X)]:
                self.refused(BadBoard, {"part": 0}, call, value)
        for call in (AnyOf, AllOf, lambda *branches: AtLeast(0, *branches)):
            self.refused(BadBoard, {"part": 1}, call, X, None, X, None)
            self.refused(BadBoard, {"part": 0}, call, (X, 1))
        self.refused(BadBoard, {"part": 1}, Weighing, 0, (X, 1), X, None)
        for value in [*[value for value in ANY_VALUES if value != 1 or value is True], 2, 3]:
            self.refused(BadBoard, {"part": "enough"}, AtLeast, value, X)
            self.refused(BadBoard, {"part": "enough"}, Weighing, value, (X, 1))
        self.refused(BadBoard, {"part": "enough"}, AtLeast, 3, X, X)
        self.refused(BadBoard, {"part": "enough"}, Weighing, 1000, (X, 999))

    def test_limits_in_their_order(self):
        self.refused(Twice, {"name": "x"}, AnyOf, Y, AllOf(Z, X), AnyOf(X, Y))
        self.refused(Twice, {"name": "y"}, AllOf, AnyOf(X, Y), AllOf(Y, X))
        self.refused(Twice, {"name": "n7"}, AnyOf, *MANY, MANY[7])
        self.refused(Twice, {"name": "x"}, Weighing, 1, (X, 150), (X, 150))
        for call in (AnyOf, AllOf, lambda *branches: AtLeast(61, *branches)):
            self.refused(TooMany, {"what": "names", "most": 60}, call, *MANY)
        self.refused(TooMany, {"what": "names", "most": 60}, Weighing, 1, *[(name, 9) for name in MANY])
        self.assertEqual(len(AnyOf(*MANY[:60])), 60)
        self.assertEqual((tower(12).levels, tower(1).levels), (12, 1))
        self.refused(TooMany, {"what": "levels", "most": 12}, AnyOf, tower(12))
        self.refused(TooMany, {"what": "levels", "most": 12}, Weighing, 1, (tower(12), 201))
        self.refused(TooMany, {"what": "names", "most": 60}, AnyOf, AnyOf(*MANY[:60]), tower(12))
        self.assertEqual(Weighing(200, (X, 199), (Y, 1)).enough, 200)
        self.refused(TooMany, {"what": "weight", "most": 200}, Weighing, 1, (X, 200), (Y, 1))
        self.refused(TooMany, {"what": "weight", "most": 200}, Weighing, 201, (X, 201))

    def test_signs(self):
        self.assertEqual((X | Y, X & AnyOf(Y), ~X), (AnyOf(X, Y), AllOf(X, AnyOf(Y)), X))
        self.assertEqual((~AnyOf(X, Y), ~AllOf(X, Y), ~AtLeast(1, X, Y, Z)), (AllOf(X, Y), AnyOf(X, Y), AtLeast(3, X, Y, Z)))
        self.assertEqual(~Weighing(3, (X, 2), (AnyOf(Y, Z), 5)), Weighing(5, (X, 2), (AllOf(Y, Z), 5)))
        for value in [*ANY_VALUES, "x"]:
            self.refused(BadBoard, {"part": "other"}, lambda: X | value)
            self.refused(BadBoard, {"part": "other"}, lambda: AnyOf(X) & value)
        self.refused(Twice, {"name": "x"}, lambda: AnyOf(Y, X) | AllOf(X, Y))
        self.refused(TooMany, {"what": "names", "most": 60}, lambda: AnyOf(*MANY[:60]) & X)
        self.refused(TooMany, {"what": "levels", "most": 12}, lambda: tower(12) | Y)

    def test_drawn_twins(self):
        rng = rng_of(81)
        for _ in range(100):
            board = drawn_board(rng, rng.randint(1, 6))
            twin = ~board
            self.assertEqual((~twin, twin.names, twin.levels), (board, board.names, board.levels))
            ratios = drawn_ratios(rng, board)
            self.assertEqual(twin({name: Ratio(1) - ratio for name, ratio in ratios.items()}), Ratio(1) - board(ratios))


class FormTest(Case):
    def test_drawn_forms(self):
        rng = rng_of(82)
        for _ in range(200):
            board = drawn_board(rng, rng.randint(1, 7))
            ratios = drawn_ratios(rng, board)
            found = board({**ratios, "other": None})
            self.assertIsInstance(found, Ratio)
            self.assertEqual(number(found), board_oracle.form(board, ratios))
        self.assertEqual(Weighing(2, (X, 1), (Y, 200 - 1))(ratios={"x": HALF, "y": Ratio(1, 3)}), Ratio(1, 3))

    def test_errors(self):
        board = AnyOf(Y, X)
        for value in [value for value in ANY_VALUES if not isinstance(value, dict)]:
            self.refused(BadNumbers, {"part": "ratios"}, board, value)
        for value in [*[value for value in ANY_VALUES if value not in (0, 1, HALF) or isinstance(value, bool)], 2, -1,
                      Ratio(-1, 9), Ratio(10, 9)]:
            self.refused(BadNumbers, {"part": "y"}, board, {"y": value, "x": value})
            self.refused(BadNumbers, {"part": "x"}, board, {"y": 1, "x": value})
        self.refused(BadNumbers, {"part": "y"}, board, {"x": 1, ("y",): 1})


class SetsTest(Case):
    def test_lights(self):
        rng = rng_of(83)
        for _ in range(120):
            board = drawn_board(rng, rng.randint(1, 6))
            names = [name for name in board.names if rng.randrange(2)]
            self.assertIs(board.lights([*names, "other", [], None, {}]), is_lit(board, names))
            self.assertIs(board.lights(names=tuple(names)), is_lit(board, names))
        for value in [value for value in ANY_VALUES if not isinstance(value, (list, tuple))] + [{"x"}, "x"]:
            self.refused(BadBoard, {"part": "names"}, X.lights, value)

    def test_rest(self):
        board = Board.read("( any ( all x y ) ( by 3 p 2 q 1 r 1 ) z )")
        for lit, dark, left in (((), (), str(board)), (["x"], [], "( any y ( by 3 p 2 q 1 r 1 ) z )"), (["z"], [], "True"),
                                ((), ["z"], "( any ( all x y ) ( by 3 p 2 q 1 r 1 ) )"),
                                (["p"], ["x"], "( any ( by 1 q 1 r 1 ) z )"), (["p", "q"], [], "True"),
                                ((), ["p"], "( any ( all x y ) z )"), (["x", "p"], ["z", "q"], "( any y r )"),
                                ([], ["x", "p", "z"], "False"), ([], ["x", "p"], "z"), ([], ["q"], "( any ( all x y ) ( by 3 p 2 r 1 ) z )"),
                                (["other"], [5, [], None], str(board))):
            self.assertEqual(str(board.rest(lit, dark)), left)
        self.assertEqual(AllOf(AnyOf(X, Y)).rest(dark=["x"]), Y)
        self.assertEqual(AllOf(AnyOf(X)).rest(dark=["y"]), AllOf(AnyOf(X)))
        self.assertEqual((X.rest(["x"]), X.rest((), ["x"]), X.rest()), (True, False, X))
        self.assertEqual(AtLeast(2, X, Y, Z).rest(["y"]), AtLeast(1, X, Z))
        self.assertEqual(AtLeast(2, X, Y, Z).rest((), ["y"]), AtLeast(2, X, Z))
        self.assertEqual(Weighing(5, (X, 5), (Y, 3), (Z, 1)).rest(["z"]), Weighing(4, (X, 5), (Y, 3)))

    def test_drawn_rests(self):
        rng = rng_of(84)
        for _ in range(300):
            board = drawn_board(rng, rng.randint(1, 7))
            lit = [name for name in board.names if not rng.randrange(4)]
            dark = [name for name in board.names if name not in lit and not rng.randrange(3)]
            left = board.rest(lit=lit, dark=dark)
            wanted = board_oracle.rest(board, lit, dark)
            self.assertEqual((left, left.__class__), (wanted, wanted.__class__))
            if isinstance(left, Board):
                ratios = {**drawn_ratios(rng, board), **{name: 1 for name in lit}, **{name: 0 for name in dark}}
                self.assertEqual(left(ratios), board(ratios))

    def test_errors_of_rest(self):
        board = AnyOf(Y, AllOf(X, Z))
        for value in [value for value in ANY_VALUES if not isinstance(value, (list, tuple))] + ["x", {"x"}]:
            self.refused(BadBoard, {"part": "lit"}, board.rest, value, value)
            self.refused(BadBoard, {"part": "dark"}, board.rest, ["x"], value)
        self.refused(Twice, {"name": "y"}, board.rest, ["z", "x", "y"], ["x", "y"])
        self.assertEqual(board.rest(["q"], ["q", []]), board)

    def test_least_sets(self):
        self.assertEqual(list(X.least_sets()), [("x",)])
        self.assertEqual(list(Weighing(3, (X, 1), (Y, 2), (Z, 3)).least_sets()), [("z",), ("x", "y")])
        self.assertEqual(list(AtLeast(2, AllOf(X, Y), Z, Named("a")).least_sets()), [("z", "a"), ("x", "y", "z"), ("x", "y", "a")])
        rng = rng_of(85)
        for _ in range(200):
            board = drawn_board(rng, rng.randint(1, 8))
            places = {name: at for at, name in enumerate(board.names)}
            wanted = sorted(board_oracle.least_sets(board), key=lambda names: (len(names), [places[name] for name in names]))
            self.assertEqual(list(board.least_sets()), wanted)

    def test_most_least_sets(self):
        pairs = [AnyOf(MANY[2 * at], MANY[2 * at + 1]) for at in range(10)]
        self.refused(TooMany, {"what": "sets", "most": 1000}, lambda: next(iter(AllOf(*pairs).least_sets())))
        self.assertEqual(len(list(AllOf(*pairs[:9]).least_sets())), 512)
        tens = [AnyOf(*MANY[10 * at:10 * at + 10]) for at in range(3)]
        self.assertEqual(len(list(AllOf(*tens).least_sets())), 1000)
        self.refused(TooMany, {"what": "sets", "most": 1000}, lambda: list((AllOf(*tens) | X).least_sets()))
        self.refused(TooMany, {"what": "sets", "most": 1000}, lambda: list(AtLeast(30, *MANY[:60]).least_sets()))
        self.assertEqual(len(list(AtLeast(59, *MANY[:60]).least_sets())), 60)
        self.assertEqual(len(list(AtLeast(2, *MANY[:45]).least_sets())), 990)
        light = AtLeast(20, *MANY[:40])
        self.assertEqual(list(Weighing(5, (light, 1), (X, 5), (Y, 2)).least_sets()), [("x",)])


class BoardTextTest(Case):
    def test_written_and_read(self):
        for text in ("x", "any", "( any x y )", "( all x y )", "( of 2 x y z )", "( by 3 x 2 y 1 z 2 )", "( any any all of by )",
                     "( by 200 of 199 by 1 )", "( of 1 ( all any ) ( by 1 ( any all ) 7 ) )", "( any x )"):
            board = Board.read(text)
            self.assertEqual(str(board), text)
            self.assertEqual(Board.read(text=str(board)), board)
        self.assertIsInstance(Board.read("( by 1 x 1 )"), Weighing)
        self.assertEqual(Board.read("by"), Named("by"))
        rng = rng_of(86)
        for _ in range(150):
            board = drawn_board(rng, rng.randint(1, 9), 5)
            self.assertEqual(Board.read(str(board)), board)
        self.assertEqual(Board.read(str(tower(12))), tower(12))
        self.assertEqual(Board.read(str(AnyOf(*MANY[:60]))), AnyOf(*MANY[:60]))

    def test_words_that_cannot_stand(self):
        long = " ".join(f"n{at}" for at in range(60))
        eleven = " ".join(["( any"] * 11)
        for text, word in (("", 0), ("X", 0), ("a.b", 0), ("x y", 1), ("x )", 1), ("(", 1), ("( x", 1), ("( any", 2), ("( any )", 2),
                           ("( any x", 3), ("( any x x", 3), ("( any x ) y", 4), ("( of", 2), ("( of x", 2), ("( of 0 x", 2),
                           ("( of 61 x", 2), ("( of 60 x )", 4), ("( of 2 x )", 4), ("( of 2 x y", 5), ("( of 1 )", 3),
                           ("( by 201 x", 2), ("( by 200 x 199 )", 5), ("( by 1 x )", 4), ("( by 1 x y", 4), ("( by 1 x 0", 4),
                           ("( by 1 x 201", 4), ("( by 1 x 200 y 1", 6), ("( by 1 )", 3), ("( by 02 x 2", 2), ("( by +2 x 2", 2),
                           ("( by 2/1 x 2", 2), ("( by 1 x 1", 5), ("( all ( any x ) x", 6), (f"( any {long} x )", 62),
                           (f"( any {long}", 62), (f"( any {long} ( any", 64), (eleven + " ( any", 22), (eleven + " x", 23), (" x", 0),
                           ("( any x  y )", 3), (") ", 0), ("( of 1/2 x", 2), ("( any 5 )", 2), (f"( of {'9' * 61} x", 2)):
            self.assertEqual(board_word(text.split(" ")), word, text)
            self.refused(BadText, {"line": 0, "word": word}, Board.read, text)
        for value in NO_TEXTS:
            self.refused(BadText, {"line": 0, "word": 0}, Board.read, value)

    def test_bent_texts(self):
        rng = rng_of(87)
        words = ["any", "all", "of", "by", "(", ")", "1", "2", "0", "n0", "n1", "x", "", "60", "200"]
        refused = 0
        for _ in range(3000):
            text = str(drawn_board(rng, rng.randint(1, 4)))
            for _ in range(rng.randint(1, 2)):
                text = bent(rng, text, words)
            told = board_word(text.split(" "))
            if told is None:
                self.assertEqual(str(Board.read(text)), text)
            else:
                refused += 1
                self.refused(BadText, {"line": 0, "word": told}, Board.read, text)
        self.assertTrue(1000 < refused < 2900)


if __name__ == "__main__":
    unittest.main()

"""Boards: when a claim on several studies is made."""

from peekproof.board_text import read_board
from peekproof.checks import is_listed, is_name, is_one_of, is_within
from peekproof.errors import BadBoard, BadNumbers, TooMany, Twice
from peekproof.labels import refuse_twice
from peekproof.lighting import least_sets_of, many_least_sets
from peekproof.ratios import as_chance
from peekproof.sums import chance_of_enough

_MOST_NAMES = 60
_MOST_LEVELS = 12
_MOST_WEIGHT = 200
_MOST_SETS = 1000
_TWINS = {"any": "all", "all": "any", "of": "of", "by": "by"}


class Board:
    """A board of these branches with these weights, whatever its class."""

    WORD = ""

    def __init__(self, branches, weights, enough, names):
        refuse_twice(names, ())
        if len(names) > _MOST_NAMES:
            raise TooMany("names", _MOST_NAMES)
        levels = 1 + max([0, *[branch.levels for branch in branches]])
        if levels > _MOST_LEVELS:
            raise TooMany("levels", _MOST_LEVELS)
        if sum(weights) > _MOST_WEIGHT:
            raise TooMany("weight", _MOST_WEIGHT)
        self.branches = tuple(branches)
        self.weights = tuple(weights)
        self.enough = enough
        self.names = tuple(names)
        self.levels = levels

    def __len__(self):
        return len(self.names)

    def __contains__(self, value):
        return is_one_of(value, self.names)

    def __iter__(self):
        return iter(self.branches)

    def __eq__(self, other):
        if not isinstance(other, Board) or self.WORD != other.WORD or self.names != other.names:
            return False
        return self.branches == other.branches and self.weights == other.weights and self.enough == other.enough

    def __or__(self, other):
        refuse_no_board(other, "other")
        return AnyOf(self, other)

    def __and__(self, other):
        refuse_no_board(other, "other")
        return AllOf(self, other)

    def __invert__(self):
        return _twin_of(self)

    def __call__(self, ratios):
        return form_of(self, told_chances(self, ratios))

    def lights(self, names):
        """Whether just these studies light it."""
        if not is_listed(names):
            raise BadBoard("names")
        return rest_of(self, {name: name in names for name in self.names})

    def rest(self, lit=(), dark=()):
        """What is left of it when these studies are known to be lit and dark: True, False or a Board."""
        if not is_listed(lit):
            raise BadBoard("lit")
        if not is_listed(dark):
            raise BadBoard("dark")
        for name in self.names:
            if name in lit and name in dark:
                raise Twice(name)
        return rest_of(self, {name: name in lit for name in self.names if name in lit or name in dark})

    def least_sets(self):
        """Yields each set of names that lights it, and does not without any one of them."""
        if many_least_sets(self) > _MOST_SETS:
            raise TooMany("sets", _MOST_SETS)
        places = {name: at for at, name in enumerate(self.names)}
        listed = [[places[name] for name in names] for names in least_sets_of(self)]
        for _, held in sorted([(len(held), held) for held in listed]):
            yield tuple([self.names[at] for at in held])

    def __str__(self):
        return " ".join(_words_of(self))

    @staticmethod
    def read(text):
        """The board with this text."""
        return _board_of(read_board(text))


class Named(Board):
    """The name of a study: lit if this study is."""

    WORD = "name"

    def __init__(self, name):
        if not is_name(name):
            raise BadBoard("name")
        super().__init__((), (), 1, (name,))
        self.name = name


class AnyOf(Board):
    """Lit if any of its branches is."""

    WORD = "any"

    def __init__(self, *branches):
        _refuse_bad_branches(branches)
        super().__init__(branches, [1] * len(branches), 1, _names_of(branches))


class AllOf(Board):
    """Lit if all of its branches are."""

    WORD = "all"

    def __init__(self, *branches):
        _refuse_bad_branches(branches)
        super().__init__(branches, [1] * len(branches), len(branches), _names_of(branches))


class AtLeast(Board):
    """Lit if so many of its branches are."""

    WORD = "of"

    def __init__(self, enough, *branches):
        _refuse_bad_branches(branches)
        _refuse_bad_enough(enough, len(branches))
        super().__init__(branches, [1] * len(branches), enough, _names_of(branches))


class Weighing(Board):
    """Lit if the weights of its lit branches add up to enough; each pair is a branch and its weight."""

    WORD = "by"

    def __init__(self, enough, *pairs):
        if not pairs:
            raise BadBoard("branches")
        for at, pair in enumerate(pairs):
            if not _is_weighed(pair):
                raise BadBoard(at)
        weights = [weight for _, weight in pairs]
        _refuse_bad_enough(enough, sum(weights))
        branches = [branch for branch, _ in pairs]
        super().__init__(branches, weights, enough, _names_of(branches))


def refuse_no_board(board, part):
    """Refuses any value that is no Board."""
    if not isinstance(board, Board):
        raise BadBoard(part)


def told_chances(board, ratios):
    """The dict from the board's names to the Ratios from 0 to 1 that the ratios tell."""
    if not isinstance(ratios, dict):
        raise BadNumbers("ratios")
    told = {}
    for name in board.names:
        chance = as_chance(ratios.get(name))
        if chance is None:
            raise BadNumbers(name)
        told[name] = chance
    return told


def form_of(board, chances):
    """The form of the board at these chances, a dict of Ratios."""
    if not board.branches:
        return chances[board.name]
    return chance_of_enough(board.enough, board.weights, [form_of(branch, chances) for branch in board.branches])


def rest_of(board, known):
    """What is left of the board: True, False or a Board; known tells of names whether they are lit."""
    if not board.branches:
        return known.get(board.name, board)
    if not any([name in known for name in board.names]):
        return board
    rests = [rest_of(branch, known) for branch in board.branches]
    enough = board.enough - sum([weight for left, weight in zip(rests, board.weights) if left is True])
    branches = [left for left in rests if isinstance(left, Board)]
    weights = [weight for left, weight in zip(rests, board.weights) if isinstance(left, Board)]
    if enough <= 0:
        return True
    if sum(weights) < enough:
        return False
    return branches[0] if len(branches) == 1 else _made(board.WORD, enough, branches, weights)


def _refuse_bad_branches(branches):
    if not branches:
        raise BadBoard("branches")
    for at, branch in enumerate(branches):
        refuse_no_board(branch, at)


def _refuse_bad_enough(enough, most):
    if not is_within(enough, 1, most):
        raise BadBoard("enough")


def _is_weighed(pair):
    if not is_listed(pair) or len(pair) != 2:
        return False
    return isinstance(pair[0], Board) and is_within(pair[1], 1, None)


def _names_of(branches):
    return [name for branch in branches for name in branch.names]


def _made(word, enough, branches, weights):
    """The board of the class with this word."""
    if word == "any":
        return AnyOf(*branches)
    if word == "all":
        return AllOf(*branches)
    if word == "of":
        return AtLeast(enough, *branches)
    pairs = [(branch, weight) for branch, weight in zip(branches, weights)]
    return Weighing(enough, *pairs)


def _board_of(told):
    """The board that a text tells, as `read_board` gives it."""
    if isinstance(told, str):
        return Named(told)
    word, enough, branches, weights = told
    return _made(word, enough, [_board_of(branch) for branch in branches], weights)


def _twin_of(board):
    if not board.branches:
        return board
    branches = [_twin_of(branch) for branch in board.branches]
    return _made(_TWINS[board.WORD], sum(board.weights) + 1 - board.enough, branches, board.weights)


def _words_of(board):
    if not board.branches:
        return [board.name]
    head = [board.WORD, str(board.enough)] if board.WORD in ("of", "by") else [board.WORD]
    lines = [_words_of(branch) for branch in board.branches]
    if board.WORD == "by":
        lines = [[*line, str(weight)] for line, weight in zip(lines, board.weights)]
    return ["(", *head, *[word for line in lines for word in line], ")"]

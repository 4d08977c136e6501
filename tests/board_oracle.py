"""What the document says of boards, told by trying all sets of names; and of the text of a board."""

import itertools
import re
from fractions import Fraction

from peekproof.boards import AllOf, AnyOf, AtLeast, Named, Weighing
from tests.study_oracle import number
from tests.support import first_bad_word


def is_lit(board, names):
    if isinstance(board, Named):
        return board.name in names
    return sum(weight for branch, weight in zip(board.branches, board.weights) if is_lit(branch, names)) >= board.enough


def subsets(names):
    for size in range(len(names) + 1):
        yield from itertools.combinations(names, size)


def form(board, ratios):
    """The sum over all sets of names that light the board."""
    total = Fraction(0)
    for names in subsets(board.names):
        if is_lit(board, names):
            chance = Fraction(1)
            for name in board.names:
                chance *= number(ratios[name]) if name in names else 1 - number(ratios[name])
            total += chance
    return total


def least_sets(board):
    lit = [names for names in subsets(board.names) if is_lit(board, names)]
    return [names for names in lit if not any(is_lit(board, [other for other in names if other != name]) for name in names)]


def rest(board, lit, dark):
    """What is left, from the names upward."""
    if isinstance(board, Named):
        return True if board.name in lit else False if board.name in dark else board
    if not any(name in lit or name in dark for name in board.names):
        return board
    enough, kept = board.enough, []
    for branch, weight in zip(board.branches, board.weights):
        left = rest(branch, lit, dark)
        if left is True:
            enough -= weight
        elif left is not False:
            kept.append((left, weight))
    if enough <= 0:
        return True
    if sum(weight for _, weight in kept) < enough:
        return False
    if len(kept) == 1:
        return kept[0][0]
    branches = [branch for branch, _ in kept]
    if isinstance(board, AnyOf):
        return AnyOf(*branches)
    if isinstance(board, AllOf):
        return AllOf(*branches)
    return AtLeast(enough, *branches) if isinstance(board, AtLeast) else Weighing(enough, *kept)


def wrongest(board, ratios):
    """The greatest form with effects at 1 that do not light the board."""
    return max(form(board, {**ratios, **{name: 1 for name in names}}) for names in subsets(board.names)
               if not is_lit(board, names))


def drawn_board(rng, many, levels=4, prefix="n"):
    """A board over about so many names."""
    names = [f"{prefix}{at}" for at in range(many)]
    rng.shuffle(names)
    return made_of(rng, names, levels)


def made_of(rng, names, levels):
    if len(names) == 1 and (levels == 1 or rng.randrange(3)):
        return Named(names[0])
    if levels <= 2:
        branches = [Named(name) for name in names]
    else:
        cuts = sorted(rng.sample(range(1, len(names)), rng.randint(0, min(3, len(names) - 1))))
        branches = [made_of(rng, names[start:stop], levels - 1)
                    for start, stop in zip([0, *cuts], [*cuts, len(names)])]
    kind = rng.randrange(4)
    if kind == 0:
        return AnyOf(*branches)
    if kind == 1:
        return AllOf(*branches)
    if kind == 2:
        return AtLeast(rng.randint(1, len(branches)), *branches)
    weights = [rng.randint(1, 4) for _ in branches]
    return Weighing(rng.randint(1, sum(weights)), *zip(branches, weights))


def is_count(word, most):
    return bool(re.fullmatch("[1-9][0-9]{0,59}", word)) and int(word) <= most


def fits(words, whole):
    """Whether these words can begin the text of a board, or are a whole one: by a stack of open boards."""
    seen, opened, done = [], [], False
    wants = "board"
    for word in words:
        if done:
            return False
        if wants == "head":
            if word not in ("any", "all", "of", "by"):
                return False
            opened.append([word, 1, 0, 0])
            wants = "enough" if word in ("of", "by") else "board"
            continue
        if wants == "enough":
            if not is_count(word, 60 if opened[-1][0] == "of" else 200):
                return False
            opened[-1][1] = int(word)
            wants = "board"
            continue
        if wants == "weight":
            if not is_count(word, 200 - opened[-1][3]):
                return False
            opened[-1][3] += int(word)
            wants = "board"
            continue
        if word == "(":
            if len(opened) == 11:
                return False
            wants = "head"
            continue
        if word == ")":
            if not opened or opened[-1][2] == 0 or opened[-1][3] < opened[-1][1]:
                return False
            opened.pop()
        elif not re.fullmatch("[a-z][a-z0-9]{0,11}", word) or word in seen or len(seen) == 60:
            return False
        else:
            seen.append(word)
        if not opened:
            done = True
        else:
            opened[-1][2] += 1
            opened[-1][3] += opened[-1][0] != "by"
            wants = "weight" if opened[-1][0] == "by" else "board"
    return done or not whole


def board_word(words):
    return first_bad_word(words, lambda some: fits(some, False), lambda some: fits(some, True))

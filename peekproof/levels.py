"""Levels of studies that keep the one of a board."""

from peekproof.boards import form_of, refuse_no_board
from peekproof.checks import is_listed
from peekproof.errors import BadNumbers, BadShelf, TooMany
from peekproof.ladders import Ladder, told_level
from peekproof.papers import Denial, Paper
from peekproof.ratios import as_chance

_MOST_LEVELS = 200


class Kept(Paper):
    """The form of a board at levels that keep its level."""

    def __init__(self, form):
        super().__init__("kept", form)
        self.form = self.parts[0]


class Passed(Denial):
    """The form of a board at levels that do not keep its level."""

    def __init__(self, form):
        super().__init__("passed", form)
        self.form = self.parts[0]


class Common(Paper):
    """The index of what keeps the level, with the form there and at what is nearest to it and does not."""

    def __init__(self, index, here, beyond):
        super().__init__("common", index, here, beyond)
        self.index = self.parts[0]
        self.here = self.parts[1]
        self.beyond = self.parts[2]


class NoCommon(Denial):
    """The form at what is the nearest to keep the level, and does not."""

    def __init__(self, form):
        super().__init__("nocommon", form)
        self.form = self.parts[0]


def keeps(board, levels, level):
    """A Kept if the levels, a dict by the board's names, keep the level, otherwise a Passed."""
    refuse_no_board(board, "board")
    told = _told_levels(board, levels)
    most = told_level(level)
    form = form_of(board, told)
    return Passed(form) if most.is_below(form) else Kept(form)


def common_level(board, levels, level):
    """A Common with the greatest of the levels that keeps the level if each name has it; a NoCommon if none does."""
    refuse_no_board(board, "board")
    told = _ascending_levels(levels)
    most = told_level(level)
    if len(told) > _MOST_LEVELS:
        raise TooMany("levels", _MOST_LEVELS)
    points = [{name: one for name in board.names} for one in told[::-1]]
    place, forms = _first_kept(board, points, most)
    if place == len(points):
        return NoCommon(forms[place - 1])
    return Common(len(points) - 1 - place, forms[place], forms.get(place - 1))


def common_rung(board, ladders, level):
    """A Common with the first rung at which the numbers of all ladders keep the level; a NoCommon if none does."""
    refuse_no_board(board, "board")
    if not _are_ladders(board, ladders):
        raise BadShelf("ladders")
    most = told_level(level)
    numbers = {name: ladders[name].numbers() for name in board.names}
    points = [{name: numbers[name][at] for name in board.names} for at in range(len(ladders[board.names[0]]))]
    place, forms = _first_kept(board, points, most)
    if place == len(points):
        return NoCommon(forms[place - 1])
    return Common(place, forms[place], forms.get(place - 1))


def _first_kept(board, points, most):
    """The place of the first point at which the form is not above most, or how many there are; and the forms there.

    A form never falls with what the names have, and no point has more than the one ahead of it: so each half that is
    left is parted by the form at its middle. The last ones asked are those at the place and ahead of it.
    """
    forms = {}
    low, high = 0, len(points)
    while low < high:
        middle = (low + high) // 2
        forms[middle] = form_of(board, points[middle])
        if most.is_below(forms[middle]):
            low = middle + 1
        else:
            high = middle
    return low, forms


def _told_levels(board, levels):
    """The dict of the Ratios; refuses what is no dict from just the board's names to levels."""
    if not isinstance(levels, dict) or len(levels) != len(board):
        raise BadNumbers("levels")
    told = {name: as_chance(levels.get(name)) for name in board.names}
    if any([one is None for one in told.values()]):
        raise BadNumbers("levels")
    return told


def _ascending_levels(levels):
    """The list of the Ratios; refuses what is no list of one or more levels, ascending, no two alike."""
    if not is_listed(levels) or not levels:
        raise BadNumbers("levels")
    told = [as_chance(one) for one in levels]
    if any([one is None for one in told]) or not all([here.is_below(there) for here, there in zip(told, told[1:])]):
        raise BadNumbers("levels")
    return told


def _are_ladders(board, ladders):
    """Whether it is a dict from just the board's names to Ladders with equally many rungs."""
    if not isinstance(ladders, dict) or len(ladders) != len(board):
        return False
    if not all([isinstance(ladders.get(name), Ladder) for name in board.names]):
        return False
    return all([len(ladders[name]) == len(ladders[board.names[0]]) for name in board.names])

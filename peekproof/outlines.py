"""The corners of the shape of a sure study, found along its outline, and the purses of its sides."""

from peekproof.errors import TooMany
from peekproof.ratios import mean_of
from peekproof.supports import Supports, across, toward


class Corner:
    """A corner of a shape: its row of chances, the picks of a world that gets it, and what it gets from each state."""

    def __init__(self, supports, picks):
        chances = supports.chances_under(picks)
        self.row = chances[0]
        self.picks = picks
        self.world = {state: (pick, line) for state, pick, line in zip(supports.states, picks, chances)}


def outlined(study, most):
    """The Corners of the shape of a sure study, at most so many, and a dict from the worths of its sides to purses."""
    supports = Supports(study)
    many = supports.many
    one = _furthest(supports, (0, 1, 1)[:many], (1, 0, 1)[:many], [0] * len(study))
    other = _furthest(supports, (1, 0, 0)[:many], (0, 1, 0)[:many], one.picks)
    corners = [one] if one.row == other.row else [one, other]
    if len(corners) == 2 and many == 3:
        there, purses = _traced(supports, one, other, 1, most)
        back, more = _traced(supports, one, other, -1, most)
        if there or back:
            return _within([*corners, *there, *back], most), {**purses, **more}
    worths = few_worths([corner.row for corner in corners], many)
    return corners, {told: _best(supports, told, one.picks)[1] for told in worths}


def few_worths(rows, many):
    """The worths of the sides, ascending, with at most two ends, or with at most two corners, whose rows these are."""
    if many < 3 or len(rows) == 1:
        return [unit_of(many, many - 1 - at) for at in range(many)] if many > 1 else []
    changes = [there.compared(here) for here, there in zip(rows[0], rows[1])]
    rising = [at for at in range(many) if changes[at] > 0]
    falling = [at for at in range(many) if changes[at] < 0]
    return sorted([across(rows[0], rows[1], 1), across(rows[0], rows[1], -1), unit_of(many, rising[0]),
                   unit_of(many, falling[0])])


def unit_of(many, end):
    """Worth 1 for this end, 0 for the others."""
    return tuple([int(at == end) for at in range(many)])


def _traced(supports, one, other, turn, most):
    """The corners on this side of the line between two corners, and the purses of the sides there."""
    corners = []
    purses = {}
    waiting = [(one, other)]
    while waiting:
        here, there = waiting.pop()
        worths = across(here.row, there.row, turn)
        picks, purse = _best(supports, worths, here.picks)
        if purse[supports.states[0]] == mean_of(here.row, worths):
            purses[worths] = purse
        else:
            middle = _furthest(supports, worths, toward(here.row, there.row), picks)
            corners = _within([*corners, middle], most)
            waiting = [*waiting, (here, middle), (middle, there)]
    return corners, purses


def _within(corners, most):
    """The corners, if they are not too many."""
    if len(corners) > most:
        raise TooMany("corners", most)
    return corners


def _best(supports, worths, picks):
    """The picks of a best world for these worths, and the least purse, a dict."""
    picks, numbers = supports.best(worths, picks)
    return picks, {state: number for state, number in zip(supports.states, numbers)}


def _furthest(supports, worths, second, picks):
    return Corner(supports, supports.furthest(worths, second, picks))

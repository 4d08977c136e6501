"""The corners of the shape of a sure study, found along its outline, and the worths of its sides."""

from peekproof.errors import TooMany
from peekproof.ratios import mean_of
from peekproof.supports import Supports, across, along


class Corner:
    """A corner of a shape: its row of chances, the picks of a world that gets it, and what it gets from each state."""

    def __init__(self, supports, picks):
        chances = supports.chances_under(picks)
        self.row = chances[0]
        self.picks = picks
        self.world = {state: (pick, line) for state, pick, line in zip(supports.states, picks, chances)}


class Outline:
    """The outline of the shape of a sure study with at most three ends, which may have so many corners."""

    def __init__(self, study, most):
        self.supports = Supports(study)
        self.most = most
        self.corners = []
        self.purses = {}
        self._find_corners(self.supports.many, [0] * len(study))
        self._find_sides(self.supports.many)

    def _find_corners(self, many, picks):
        one = self._furthest((0, 1, 1)[:many], (1, 0, 1)[:many], picks)
        other = self._furthest((1, 0, 0)[:many], (0, 1, 0)[:many], one.picks)
        self._add(one)
        if one.row != other.row:
            self._add(other)
            if many == 3:
                self._trace(one, other, 1)
                self._trace(one, other, -1)

    def _find_sides(self, many):
        """With three corners or more the sides are just those that were found along the outline."""
        if len(self.corners) <= 2:
            rows = [corner.row for corner in self.corners]
            self.purses = {worths: self._best(worths, self.corners[0].picks)[1] for worths in few_worths(rows, many)}

    def _trace(self, one, other, turn):
        """Adds what corners lie on this side of the line between two corners, and the purses of the sides there."""
        waiting = [(one, other)]
        while waiting:
            here, there = waiting.pop()
            worths = across(here.row, there.row, turn)
            picks, purse = self._best(worths, here.picks)
            if purse[self.supports.states[0]] == mean_of(here.row, worths):
                self.purses[worths] = purse
            else:
                middle = self._furthest(worths, along(here.row, there.row), picks)
                self._add(middle)
                waiting = [*waiting, (here, middle), (middle, there)]

    def _add(self, corner):
        if len(self.corners) == self.most:
            raise TooMany("corners", self.most)
        self.corners.append(corner)

    def _best(self, worths, picks):
        picks, numbers = self.supports.best(worths, picks)
        return picks, {state: number for state, number in zip(self.supports.states, numbers)}

    def _furthest(self, worths, second, picks):
        return Corner(self.supports, self.supports.furthest(worths, second, picks))


def few_worths(rows, many):
    """The worths of the sides, ascending, with at most two ends, or with at most two corners, whose rows these are."""
    if many < 3 or len(rows) == 1:
        return [unit_of(many, many - 1 - at) for at in range(many)] if many > 1 else []
    changes = [there.compared(here) for here, there in zip(rows[0], rows[1])]
    rising = [at for at in range(many) if changes[at] > 0]
    falling = [at for at in range(many) if changes[at] < 0]
    return sorted([across(rows[0], rows[1], 1), across(rows[0], rows[1], -1), unit_of(many, rising[0]),
                   unit_of(many, falling[0])])


def unit_of(many, end):
    """Worth 1 for this end, 0 for the others."""
    return tuple([int(at == end) for at in range(many)])

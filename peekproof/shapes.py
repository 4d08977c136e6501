"""Shapes: all chances of its ends that worlds that go on give a sure study."""

from peekproof.crowds import Crowd
from peekproof.errors import TooMany, Unsure
from peekproof.moves import refuse_no_study
from peekproof.outlines import outlined
from peekproof.papers import Paper
from peekproof.ratios import as_shares, ascending, mean_of
from peekproof.sure import sure


class Side(Paper):
    """Worths for which no world gets more than the number, as the table, a purse, shows."""

    def __init__(self, worths, number, table):
        super().__init__("side", worths, number, table)
        self.worths = self.parts[0]
        self.number = self.parts[1]
        self.table = self.parts[2]


class Shape(Paper):
    """The corners of a shape with the worlds that get them, and its sides; the ranks show that the study is sure."""

    MOST_ENDS = 3
    MOST_STATES = 16
    MOST_CORNERS = 24

    def __init__(self, ends, corners, worlds, sides, ranks):
        super().__init__("shape", ends, corners, worlds, sides, ranks)
        self.ends = self.parts[0]
        self.corners = self.parts[1]
        self.worlds = self.parts[2]
        self.sides = self.parts[3]
        self.ranks = self.parts[4]

    def as_crowd(self):
        """The crowd with the ends as signs and these corners."""
        return Crowd(self.ends, self.corners)

    def __contains__(self, value):
        chances = as_shares(value, len(self.ends))
        return chances is not None and not any([is_barred(side, chances) for side in self.sides])

    def __len__(self):
        return len(self.corners)

    def __iter__(self):
        return iter(self.corners)


def shape_of(study):
    """The Shape of a study."""
    refuse_no_study(study)
    shown = sure(study)
    if not shown:
        raise Unsure(shown)
    if len(study.watch.ends) > Shape.MOST_ENDS:
        raise TooMany("ends", Shape.MOST_ENDS)
    if len(study) > Shape.MOST_STATES:
        raise TooMany("states", Shape.MOST_STATES)
    found, purses = outlined(study, Shape.MOST_CORNERS)
    corners = [found[at] for at in ascending([corner.row for corner in found])]
    sides = [Side(worths, purses[worths][study.watch.first], purses[worths]) for worths in sorted(purses)]
    return Shape(study.watch.ends, [corner.row for corner in corners], [corner.world for corner in corners], sides,
                 dict(shown.ranks))


def is_barred(side, chances):
    """Whether the mean of the side's worths at the chances is greater than its number."""
    return mean_of(chances, side.worths).compared(side.number) > 0

"""The least mean that worlds get that go on."""

from peekproof.moves import refuse_no_study, refuse_too_many_states, told_worths, worth_moves
from peekproof.papers import Paper, told_at
from peekproof.solving import best_world
from peekproof.sure import sure


class Least(Paper):
    """The least number, with the table, the kept corners and the sure ranks that show it."""

    def __init__(self, number, table, corners, ranks):
        super().__init__("least", number, table, corners, ranks)
        self.number = self.parts[0]
        self.table = self.parts[1]
        self.corners = self.parts[2]
        self.ranks = self.parts[3]

    def at(self, state):
        """What the table tells of the state."""
        return told_at(self.table, state)


def least(study, worths=None):
    """A right Least, or the Trap of a study that is not sure."""
    refuse_no_study(study)
    told = told_worths(study, worths)
    refuse_too_many_states(study)
    shown = sure(study)
    if not shown:
        return shown
    moves = worth_moves(study, told)
    picks, numbers, bottom = best_world(moves.lines, [0] * len(study), -1)
    table = moves.table_of(numbers, bottom)
    corners = {state: pick for state, pick in zip(study.states, picks)}
    return Least(table[study.watch.first], table, corners, dict(shown.ranks))

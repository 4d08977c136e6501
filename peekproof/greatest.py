"""The greatest mean that free worlds get, and purses."""

from peekproof.moves import gain_ranks, none_above, refuse_no_study, refuse_too_many_states, told_amounts, told_worths
from peekproof.moves import worth_moves
from peekproof.papers import Paper, told_at
from peekproof.solving import best_world, leading_picks


class Greatest(Paper):
    """The greatest number, with the table, the kept corners and the ranks that show it."""

    def __init__(self, number, table, corners, ranks):
        super().__init__("greatest", number, table, corners, ranks)
        self.number = self.parts[0]
        self.table = self.parts[1]
        self.corners = self.parts[2]
        self.ranks = self.parts[3]

    def at(self, state):
        """What the table tells of the state."""
        return told_at(self.table, state)


def greatest(study, worths=None):
    """A right Greatest."""
    refuse_no_study(study)
    told = told_worths(study, worths)
    refuse_too_many_states(study)
    moves = worth_moves(study, told)
    picks, numbers, bottom = best_world(moves.lines, leading_picks(moves.lines), 1)
    table = moves.table_of(numbers, bottom)
    found = gain_ranks([line[pick] for line, pick in zip(moves.lines, picks)])
    corners = {state: pick for state, pick in zip(study.states, picks)}
    ranks = {state: found[at] for at, state in enumerate(study.states) if at in found}
    return Greatest(table[study.watch.first], table, corners, ranks)


def is_purse(study, table, worths=None):
    """Whether table is a dict from just the states to ratios from 0 on that is a purse."""
    refuse_no_study(study)
    told = told_worths(study, worths)
    numbers = told_amounts(study, table)
    return numbers is not None and none_above(worth_moves(study, told).surpluses(numbers))

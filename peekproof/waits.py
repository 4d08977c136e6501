"""The moves that lead to one end for sure, each trial counted: what a least mean wait is found and checked with."""

from peekproof.checks import is_one_of
from peekproof.errors import NoEnd
from peekproof.moves import Moves, refuse_no_study
from peekproof.ranking import places_at
from peekproof.ratios import Ratio

_NO_MOVE = (1, 0, ())


def refuse_no_end(study, end):
    """Refuses what is no study, and then what is no end that its watch lists."""
    refuse_no_study(study)
    if not is_one_of(end, study.watch.ends):
        raise NoEnd(end)


def worths_of_end(study, end):
    """Worth 1 for this end and 0 for the others."""
    return {other: Ratio(int(other == end)) for other in study.watch.ends}


class Waits:
    """The corners that stay where a purse is 1, a dict from just the states to Ratios.

    The attribute stays tells their indexes for each of these states, that of the corner which is put first ahead of
    the others; lines has their moves, which gain 1 a trial. The other states have one move, and none leads to them.
    """

    def __init__(self, study, end, purse, firsts):
        sure = {state: True for state in study.states if purse[state] == 1}
        self.stays = {state: _staying(study, state, {**sure, end: True}, firsts[state]) for state in sure}
        gains = {state: [1] * len(study.watch.places_of(state)) for state in study.states}
        self.lines = [[line[index] for index in self.stays[state]] if state in sure else [_NO_MOVE]
                      for state, line in zip(study.states, Moves(study, 1, gains).lines)]


def _staying(study, state, places, first):
    """The indexes of the corners that lead to these places alone, the first one ahead if it is one of them."""
    indexes = [index for index, corner in enumerate(study.corners_of(state))
               if all([place in places for place in places_at(study, state, corner)])]
    return [*[index for index in indexes if index == first], *[index for index in indexes if index != first]]

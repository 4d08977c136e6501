"""The greatest mean that a world can spend, or that it is endless."""

from math import lcm

from peekproof.checks import is_listed, is_within
from peekproof.errors import BadCosts, BadNumbers, TooMany
from peekproof.moves import ranks_to, refuse_bad_corners, refuse_too_many_states
from peekproof.outlays import cost_moves, greatest_drain, leads_out, refuse_unfit_costs
from peekproof.papers import Denial, Paper, told_at
from peekproof.ranking import least_rows
from peekproof.ratios import Ratio, added
from peekproof.solving import best_world, leading_picks

_MOST_TRIALS = 200


class Dearest(Paper):
    """The greatest mean that is spent, with the heights, the kept corners and the ranks that show it."""

    def __init__(self, number, heights, corners, ranks):
        super().__init__("dearest", number, heights, corners, ranks)
        self.number = self.parts[0]
        self.heights = self.parts[1]
        self.corners = self.parts[2]
        self.ranks = self.parts[3]

    def at(self, state):
        """The height of the state."""
        return told_at(self.heights, state)


class Endless(Denial):
    """A possible row to a drain, with the kept corners and the ranks of its states."""

    def __init__(self, row, corners, ranks):
        super().__init__("endless", row, corners, ranks)
        self.row = self.parts[0]
        self.corners = self.parts[1]
        self.ranks = self.parts[2]


def dearest(study, costs):
    """A right Dearest with the least heights; an Endless if there is a drain."""
    refuse_unfit_costs(study, costs)
    refuse_too_many_states(study)
    moves = cost_moves(study, costs)
    drain = {study.states[at]: kept for at, kept in greatest_drain(moves.lines).items()}
    if drain:
        return _endless(study, drain)
    picks, numbers, bottom = best_world(moves.lines, leading_picks(moves.lines), 1)
    heights = moves.table_of(numbers, bottom)
    ranks = _spent_ranks([line[pick] for line, pick in zip(moves.lines, picks)], numbers)
    return Dearest(heights[study.watch.first], heights, {state: pick for state, pick in zip(study.states, picks)},
                   {state: ranks[at] for at, state in enumerate(study.states) if at in ranks})


def dearest_of(*pairs):
    """The greatest mean that a world can spend on all of these studies with costs; None if it is endless."""
    papers = []
    for pair in pairs:
        if not is_listed(pair) or len(pair) != 2:
            raise BadCosts("pairs")
        papers.append(dearest(pair[0], pair[1]))
    return added([paper.number for paper in papers]) if all([paper.word == "dearest" for paper in papers]) else None


def spent(study, costs, corners, trials):
    """What the steady world with these corners spends on the mean in its first trials."""
    refuse_unfit_costs(study, costs)
    refuse_bad_corners(study, corners)
    if not is_within(trials, 0, None):
        raise BadNumbers("trials")
    if trials > _MOST_TRIALS:
        raise TooMany("trials", _MOST_TRIALS)
    moves = cost_moves(study, costs)
    return _spent_by([line[corners[state]] for state, line in zip(study.states, moves.lines)], trials, moves.bottom)


def _endless(study, drain):
    rows = least_rows(study)
    entries = [state for state in study.states if state in drain]
    return Endless(rows[entries[0]], {state: index for state, (index, _) in drain.items()},
                   {state: rank for state, (_, rank) in drain.items()})


def _spent_ranks(chosen, numbers):
    """Ranks of the states with a height: at rank 1 the move can lead out of them, else to a lesser rank."""
    return ranks_to([at for at, move in enumerate(chosen)
                     if numbers[at] > 0 and (leads_out(move) or any([numbers[step] == 0 for step, _ in move[2]]))],
                    chosen)


def _spent_by(chosen, trials, unit):
    """What the world with these moves spends from the first state on, whose index is 0; costs stand over the unit.

    How often each state is come to is added up alone, over a power of one bottom: the costs come in at the end.
    """
    live = _come_to(chosen)
    bottom = 1
    for at in live:
        bottom = lcm(bottom, chosen[at][0])
    factors = {at: bottom // chosen[at][0] for at in live}
    ways = {at: [(other, share) for other in live for step, share in chosen[other][2] if step == at] for at in live}
    chances = {at: int(at == 0) for at in live}
    visits = {at: 0 for at in live}
    power = 1
    for _ in range(trials):
        visits = {at: visits[at] * bottom + chances[at] for at in live}
        drawn = {at: chances[at] * factors[at] for at in live}
        chances = {at: sum([drawn[other] * share for other, share in ways[at]]) for at in live}
        power = power * bottom
    return Ratio(sum([visits[at] * factors[at] * chosen[at][1] for at in live]), unit * power)


def _come_to(chosen):
    """The indexes of the states to which these moves lead from the first one."""
    live = [0]
    at = 0
    while at < len(live):
        live = [*live, *[step for step, _ in chosen[live[at]][2] if step not in live]]
        at += 1
    return live

"""What a study costs, as moves whose gains are the costs; and the drains that make this endless."""

from peekproof.costs import Costs
from peekproof.errors import BadCosts
from peekproof.moves import Moves, refuse_no_study
from peekproof.ratios import common_bottom, scaled_tops


def refuse_unfit_costs(study, costs):
    """Refuses any values that are not a study and costs of its watch."""
    refuse_no_study(study)
    if not isinstance(costs, Costs):
        raise BadCosts("costs")
    if costs.watch != study.watch:
        raise BadCosts("watch")


def cost_moves(study, costs):
    """The moves that gain what their signs cost."""
    told = {state: [costs[state, sign] for sign in study.watch.signs_of(state)] for state in study.states}
    bottom = common_bottom([cost for state in study.states for cost in told[state]])
    return Moves(study, bottom, {state: scaled_tops(told[state], bottom) for state in study.states})


def leads_out(move):
    """Whether some sign with a chance above 0 leads to an end."""
    return sum([share for _, share in move[2]]) < move[0]


def greatest_drain(lines):
    """For each state of the greatest drain the index of its kept move and its rank; empty if there is no drain."""
    ways = [_ways_of(line) for line in lines]
    held = {at: True for at in range(len(lines))}
    while True:
        staying = {at: [way for way in ways[at] if all([step in held for step in way[2]])] for at in held}
        drain = _ranked(staying)
        if len(drain) == len(held):
            return drain
        held = {at: True for at in drain}


def _ways_of(line):
    """The different ways of the moves that lead to no end: the index of the first such move, whether it costs, and
    where it leads."""
    ways = {}
    for index, move in enumerate(line):
        if not leads_out(move):
            ways.setdefault((move[1] > 0, *[step for step, _ in move[2]]), index)
    return [(index, way[0], way[1:]) for way, index in ways.items()]


def _ranked(ways):
    """The states from which such ways can come to a cost, each with the index of its move and its rank."""
    ranked = {}
    rank = 1
    found = _found_next(ways, ranked)
    while found:
        for at, index in found:
            ranked[at] = (index, rank)
        rank += 1
        found = _found_next(ways, ranked)
    return ranked


def _found_next(ways, ranked):
    found = []
    for at in ways:
        if at not in ranked:
            indexes = [index for index, is_costly, steps in ways[at]
                       if is_costly or any([step in ranked for step in steps])]
            found = [*found, *[(at, index) for index in indexes[:1]]]
    return found

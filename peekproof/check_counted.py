"""Whether papers of what is counted trial by trial are right: by adding, comparing and walking alone."""

from peekproof.dearest import Dearest, Endless
from peekproof.moves import none_above, surpluses_of, told_amounts, worth_moves
from peekproof.outlays import cost_moves, leads_out, refuse_unfit_costs
from peekproof.ratios import Ratio
from peekproof.showing import amounts_over, are_kept, corners_over, is_equal_ratio, place_behind, ranks_over
from peekproof.showing import ratios_over, states_of
from peekproof.soonest import Seldom, Soonest
from peekproof.waits import Waits, refuse_no_end, worths_of_end


def is_heights(study, costs, value):
    """Whether value is a dict of heights over just the states of the study."""
    refuse_unfit_costs(study, costs)
    heights = told_amounts(study, value)
    return heights is not None and none_above(cost_moves(study, costs).surpluses(heights))


def shows_dearest(study, costs, value):
    """Whether value is a right Dearest, or an Endless of a drain."""
    refuse_unfit_costs(study, costs)
    if isinstance(value, Endless):
        return _is_drain(study, cost_moves(study, costs), value)
    return isinstance(value, Dearest) and _is_dearest(study, cost_moves(study, costs), value)


def shows_soonest(study, value, end="lit"):
    """Whether value is a right Soonest, or a Seldom whose purse shows that no world comes to the end for sure."""
    refuse_no_end(study, end)
    if not isinstance(value, (Soonest, Seldom)):
        return False
    purse = amounts_over(value.purse, study.states)
    if purse is None or any([number.compared(1) > 0 for number in purse.values()]):
        return False
    if not none_above(worth_moves(study, worths_of_end(study, end)).surpluses(purse)):
        return False
    is_surely = purse[study.watch.first] == 1
    if isinstance(value, Seldom):
        return not is_surely
    return is_surely and _are_means(study, end, purse, value)


def _is_dearest(study, moves, value):
    heights = amounts_over(value.heights, study.states)
    corners = corners_over(value.corners, study, study.states)
    if heights is None or corners is None or not is_equal_ratio(value.number, heights[study.watch.first]):
        return False
    ranks = ranks_over(value.ranks, [state for state in study.states if heights[state].sign > 0])
    if ranks is None:
        return False
    kept = {state: line[corners[state]] for state, line in zip(study.states, moves.lines)}
    if not all([leads_out(kept[state]) or _leads_lower(study, kept[state], ranks, state, 0) for state in ranks]):
        return False
    surpluses = moves.surpluses(heights)
    return none_above(surpluses) and are_kept(study, corners, surpluses)


def _is_drain(study, moves, value):
    states = states_of(value.corners, study)
    corners = None if states is None else corners_over(value.corners, study, states)
    ranks = None if corners is None else ranks_over(value.ranks, states)
    if ranks is None or place_behind(study, value.row) not in ranks:
        return False
    lines = {state: line for state, line in zip(study.states, moves.lines)}
    return all([_drains(study, lines[state][index], ranks, state) for state, index in corners.items()])


def _drains(study, move, ranks, state):
    """Whether the move stays in the drain, and costs at once, if the rank is 1, or leads to a lesser rank."""
    if leads_out(move) or not all([study.states[step] in ranks for step, _ in move[2]]):
        return False
    return move[1] > 0 if ranks[state] == 1 else _leads_lower(study, move, ranks, state, ranks[state])


def _leads_lower(study, move, ranks, state, unranked):
    """Whether the move leads to a lesser rank; states without one count as unranked."""
    return any([ranks.get(study.states[step], unranked) < ranks[state] for step, _ in move[2]])


def _are_means(study, end, purse, value):
    states = [state for state in study.states if purse[state] == 1]
    means = ratios_over(value.means, states)
    corners = corners_over(value.corners, study, states)
    if means is None or corners is None or not is_equal_ratio(value.number, means[study.watch.first]):
        return False
    waits = Waits(study, end, purse, corners)
    # Nothing leads to a state without a mean: its number is of no account.
    surpluses = surpluses_of(waits.lines, [means.get(state, Ratio(0)) for state in study.states], 1)
    return all([_is_least_mean(line, waits.stays[state], corners[state])
                for state, line in zip(study.states, surpluses) if state in waits.stays])


def _is_least_mean(surpluses, stays, kept):
    """Whether the mean is at no corner that stays above what comes there, and equal at the kept one, which stays."""
    return stays[:1] == [kept] and surpluses[0] == 0 and all([surplus >= 0 for surplus in surpluses])

"""What one steady world gets."""

from peekproof.moves import gains_of, refuse_bad_corners, refuse_no_study, refuse_too_many_states, told_worths
from peekproof.moves import worth_moves


def steady(study, corners, worths=None):
    """What the steady world with these corners gets, on the mean, from each state on."""
    refuse_no_study(study)
    refuse_bad_corners(study, corners)
    told = told_worths(study, worths)
    refuse_too_many_states(study)
    moves = worth_moves(study, told)
    chosen = [line[corners[state]] for state, line in zip(study.states, moves.lines)]
    numbers, bottom = gains_of(chosen)
    return moves.table_of(numbers, bottom)

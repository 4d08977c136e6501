"""Studies with what is gained as integers: moves, and the steady worlds that take one of them at each state.

A move is what one corner does at a state: a triple (scale, gain, steps). Its mean is the gain, plus each step's share
times the number of the state with this index, over the scale. All gains stand over one common bottom.
"""

from peekproof.checks import is_within
from peekproof.errors import BadStudy, BadWorld, BadWorths, TooMany
from peekproof.linear import solved
from peekproof.ratios import Ratio, as_ratio, common_bottom, scaled_tops
from peekproof.standings import LIT
from peekproof.studies import Study


def refuse_no_study(study):
    """Refuses any value that is no Study."""
    if not isinstance(study, Study):
        raise BadStudy("study")


def refuse_bad_corners(study, corners):
    """Refuses what is no dict from just the states to an index of a corner each."""
    if not isinstance(corners, dict) or len(corners) != len(study):
        raise BadWorld("corners")
    for state in study.states:
        if not is_within(corners.get(state), 0, len(study.corners_of(state)) - 1):
            raise BadWorld("corners")


def told_worths(study, worths):
    """The dict of the Ratios of the worths."""
    ends = study.watch.ends
    if worths is None:
        return {end: Ratio(int(end == LIT)) for end in ends}
    if not isinstance(worths, dict) or len(worths) != len(ends):
        raise BadWorths("worths")
    told = {end: as_ratio(worths.get(end)) for end in ends}
    if any([worth is None or worth.sign < 0 for worth in told.values()]):
        raise BadWorths("worths")
    return told


def told_amounts(study, table):
    """The dict of the Ratios from 0 on that a dict tells of just the states, None for any other value."""
    if not isinstance(table, dict) or len(table) != len(study):
        return None
    told = {state: as_ratio(table.get(state)) for state in study.states}
    return None if any([amount is None or amount.sign < 0 for amount in told.values()]) else told


def refuse_too_many_states(study):
    """Refuses a study that is too large to be solved."""
    if len(study) > Study.MOST:
        raise TooMany("states", Study.MOST)


class Moves:
    """The moves of a study: each line has those of a state, by the corners in order.

    The gains tell for each state what each of its signs gains at once, as integers over the bottom.
    """

    def __init__(self, study, bottom, gains):
        self.states = study.states
        self.bottom = bottom
        indexes = {state: at for at, state in enumerate(study.states)}
        shares = {arm: _scaled_corners(crowd) for arm, crowd in study.crowds}
        self.lines = [[_move(corner, gains[state], study.watch.places_of(state), indexes)
                       for corner in shares[study.arm_of(state)]] for state in study.states]

    def table_of(self, numbers, bottom):
        """The dict from the states to the ratios that these numbers are."""
        return {state: Ratio(number, bottom * self.bottom) for state, number in zip(self.states, numbers)}

    def surpluses(self, table):
        """How far the means are above the numbers of the table, a dict from just the states to Ratios."""
        return surpluses_of(self.lines, [table[state] for state in self.states], self.bottom)


def surpluses_of(lines, numbers, unit):
    """For each state, by its moves, an integer: above 0 if the mean is above the state's number, 0 if it is equal.

    The numbers are Ratios; the gains of the moves stand over the unit.
    """
    bottom = common_bottom(numbers)
    tops = [top * unit for top in scaled_tops(numbers, bottom)]
    return [[mean_behind(move, tops, bottom) - top * move[0] for move in line] for line, top in zip(lines, tops)]


def none_above(surpluses):
    """Whether no mean is above the number of its state."""
    return all([surplus <= 0 for line in surpluses for surplus in line])


def worth_moves(study, worths):
    """The moves with these worths, a dict from the ends of the watch to Ratios from 0 on."""
    ends = list(worths)
    bottom = common_bottom([worths[end] for end in ends])
    tops = {end: top for end, top in zip(ends, scaled_tops([worths[end] for end in ends], bottom))}
    gains = {state: [tops.get(place, 0) for place in study.watch.places_of(state)] for state in study.states}
    return Moves(study, bottom, gains)


def _scaled_corners(crowd):
    scales = [common_bottom(corner) for corner in crowd.corners]
    return [(scale, scaled_tops(corner, scale)) for scale, corner in zip(scales, crowd.corners)]


def _move(corner, gains, places, indexes):
    scale, shares = corner
    steps = {}
    for share, place in zip(shares, places):
        if share > 0 and place in indexes:
            steps[indexes[place]] = steps.get(indexes[place], 0) + share
    gain = sum([share * gained for share, gained in zip(shares, gains)])
    return scale, gain, list(steps.items())


def gains_of(chosen):
    """What the steady world of these moves, one for each state, gets from each state on: integers, and their bottom."""
    ranks = gain_ranks(chosen)
    live = [at for at in range(len(chosen)) if at in ranks]
    columns = {at: column for column, at in enumerate(live)}
    numbers, bottom = solved([_equation(chosen[at], columns, columns[at]) for at in live])
    return [numbers[columns[at]] if at in columns else 0 for at in range(len(chosen))], bottom


def gain_ranks(chosen):
    """Ranks of the states from which these moves can lead to a gain: at rank 1 at once, else to a lesser rank."""
    return ranks_to([at for at, move in enumerate(chosen) if move[1] > 0], chosen)


def ranks_to(found, chosen):
    """Ranks of the states found, which is 1, and of those from which these moves can lead to a lesser rank."""
    ranks = {}
    rank = 0
    while found:
        rank += 1
        for at in found:
            ranks[at] = rank
        found = [at for at, move in enumerate(chosen)
                 if at not in ranks and any([step in ranks for step, _ in move[2]])]
    return ranks


def _equation(move, columns, column):
    scale, gain, steps = move
    line = [0] * len(columns)
    line[column] = scale
    for step, share in steps:
        if step in columns:
            line[columns[step]] -= share
    return [*line, gain]


def mean_behind(move, numbers, bottom):
    """The mean of the move, times its scale, in the same units as the numbers."""
    return move[1] * bottom + sum([share * numbers[step] for step, share in move[2]])

"""Parts of papers about a study, read for any values: what was told as a dict counts as `fixed` gives it."""

from peekproof.checks import is_one_of, is_within
from peekproof.papers import is_table
from peekproof.ranking import places_at
from peekproof.ratios import as_ratio


def table_over(part, keys):
    """The dict that the part tells of just these strings, None if it tells no such dict."""
    if not is_table(part) or [key for key, _ in part] != sorted(keys):
        return None
    return {key: value for key, value in part}


def ratios_over(part, states):
    """The dict of Ratios that the part tells of just these states, None if it tells none."""
    table = table_over(part, states)
    told = {} if table is None else {state: as_ratio(table[state]) for state in states}
    return None if table is None or any([ratio is None for ratio in told.values()]) else told


def amounts_over(part, states):
    """The dict of Ratios from 0 on, likewise."""
    told = ratios_over(part, states)
    return None if told is None or any([ratio.sign < 0 for ratio in told.values()]) else told


def corners_over(part, study, states):
    """The dict of indexes of corners that the part tells of just these states, None if it tells none."""
    table = table_over(part, states)
    if table is None or not all([is_within(table[state], 0, len(study.corners_of(state)) - 1) for state in states]):
        return None
    return table


def ranks_over(part, states):
    """The dict of integers from 1 on that the part tells of just these states, None if it tells none."""
    table = table_over(part, states)
    return None if table is None or not all([is_within(rank, 1, None) for rank in table.values()]) else table


def states_of(part, study):
    """The states that the part, a table of states that come about, one or more, has as keys; None for other parts."""
    if not is_table(part) or not part or not all([state in study for state, _ in part]):
        return None
    return [state for state, _ in part]


def place_behind(study, row):
    """The place to which a possible row leads, None for any value that is none."""
    if not isinstance(row, tuple):
        return None
    place = study.watch.first
    for sign in row:
        if place not in study or not is_one_of(sign, study.possible_of(place)):
            return None
        place = study.place(place, sign)
    return place


def are_sure_ranks(study, part):
    """Whether the part tells sure ranks of the study."""
    ranks = ranks_over(part, study.states)
    return ranks is not None and all([_leads_down(study, state, corner, ranks)
                                      for state in study.states for corner in study.corners_of(state)])


def _leads_down(study, state, corner, ranks):
    """Whether some sign leads to an end or to a state with a lesser rank."""
    return any([ranks.get(place, 0) < ranks[state] for place in places_at(study, state, corner)])


def is_equal_ratio(value, ratio):
    """Whether any value is a ratio that is equal to this one."""
    told = as_ratio(value)
    return told is not None and told == ratio


def are_kept(study, corners, surpluses):
    """Whether the mean at each kept corner is the number of its state."""
    return all([line[corners[state]] == 0 for state, line in zip(study.states, surpluses)])

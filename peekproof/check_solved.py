"""Whether papers of sure, greatest and least are right: by adding, comparing and walking alone."""

from peekproof.greatest import Greatest
from peekproof.least import Least
from peekproof.moves import none_above, refuse_no_study, told_worths, worth_moves
from peekproof.ranking import places_at
from peekproof.showing import amounts_over, are_kept, are_sure_ranks, corners_over, is_equal_ratio
from peekproof.showing import place_behind, ranks_over, states_of
from peekproof.sure import Sure, Trap


def shows_sure(study, value):
    """Whether value is a Sure with sure ranks, or a Trap of a trap."""
    refuse_no_study(study)
    if isinstance(value, Sure):
        return are_sure_ranks(study, value.ranks)
    return isinstance(value, Trap) and _is_trap(study, value)


def shows_greatest(study, value, worths=None):
    """Whether value is a right Greatest."""
    refuse_no_study(study)
    told = told_worths(study, worths)
    if not isinstance(value, Greatest):
        return False
    table = amounts_over(value.table, study.states)
    corners = corners_over(value.corners, study, study.states)
    if table is None or corners is None or not is_equal_ratio(value.number, table[study.watch.first]):
        return False
    ranks = ranks_over(value.ranks, [state for state in study.states if table[state].sign > 0])
    if ranks is None or not all([_leads_on(study, state, corners[state], ranks, told) for state in ranks]):
        return False
    surpluses = worth_moves(study, told).surpluses(table)
    return none_above(surpluses) and are_kept(study, corners, surpluses)


def shows_least(study, value, worths=None):
    """Whether value is a right Least, or a Trap of a trap."""
    refuse_no_study(study)
    told = told_worths(study, worths)
    if isinstance(value, Trap):
        return _is_trap(study, value)
    if not isinstance(value, Least) or not are_sure_ranks(study, value.ranks):
        return False
    table = amounts_over(value.table, study.states)
    corners = corners_over(value.corners, study, study.states)
    if table is None or corners is None or not is_equal_ratio(value.number, table[study.watch.first]):
        return False
    surpluses = worth_moves(study, told).surpluses(table)
    return all([surplus >= 0 for line in surpluses for surplus in line]) and are_kept(study, corners, surpluses)


def _is_trap(study, trap):
    states = states_of(trap.corners, study)
    corners = None if states is None else corners_over(trap.corners, study, states)
    if corners is None or place_behind(study, trap.row) not in corners:
        return False
    return all([place in corners for state, index in corners.items()
                for place in places_at(study, state, study.corners_of(state)[index])])


def _leads_on(study, state, index, ranks, worths):
    """Whether some sign leads at this corner to an end with a worth above 0 or to a state with a lesser rank."""
    places = places_at(study, state, study.corners_of(state)[index])
    return any([worths[place].sign > 0 if place in worths else ranks.get(place, ranks[state]) < ranks[state]
                for place in places])

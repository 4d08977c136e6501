"""Whether a study comes to an end in each world that goes on."""

from peekproof.errors import BadStudy
from peekproof.papers import Denial, Paper
from peekproof.ranking import least_rows, places_at, sure_ranks
from peekproof.studies import Study


class Sure(Paper):
    """Sure ranks."""

    def __init__(self, ranks):
        super().__init__("sure", ranks)
        self.ranks = self.parts[0]


class Trap(Denial):
    """A possible row that leads to a state of a trap, and the corners of the trap."""

    def __init__(self, row, corners):
        super().__init__("trap", row, corners)
        self.row = self.parts[0]
        self.corners = self.parts[1]


def sure(study):
    """A Sure with the least sure ranks, or a Trap with the greatest trap."""
    if not isinstance(study, Study):
        raise BadStudy("study")
    ranks = sure_ranks(study)
    caught = [state for state in study.states if state not in ranks]
    if not caught:
        return Sure(ranks)
    return Trap(least_rows(study)[caught[0]], {state: _staying_corner(study, state, caught) for state in caught})


def _staying_corner(study, state, caught):
    """The index of the first corner that leads to these states alone."""
    for index, corner in enumerate(study.corners_of(state)):
        if all([place in caught for place in places_at(study, state, corner)]):
            return index
    return None

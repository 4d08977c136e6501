"""The effects at which a wrong claim is made most often."""

from peekproof.errors import TooMany
from peekproof.ratios import Ratio, ascending
from peekproof.sums import chance_of_enough

_MOST_BRANCHES = 10


def refuse_wide_weighings(board):
    """Refuses a board with a Weighing in it that has too many branches."""
    if board.WORD == "by" and len(board.branches) > _MOST_BRANCHES:
        raise TooMany("branches", _MOST_BRANCHES)
    for branch in board.branches:
        refuse_wide_weighings(branch)


def wrongest_of(board, chances):
    """The greatest form of the board with effects at 1 that do not light it, and these effects, a list of names."""
    if not board.branches:
        return chances[board.name], []
    told = [wrongest_of(branch, chances) for branch in board.branches]
    numbers = [number for number, _ in told]
    best = None
    for lit in _ways_to_light(board, numbers):
        shares = [Ratio(1) if at in lit else share for at, share in enumerate(numbers)]
        number = chance_of_enough(board.enough, board.weights, shares)
        if best is None or best[0].is_below(number):
            best = (number, lit)
    effects = [name for at, branch in enumerate(board.branches)
               for name in (branch.names if at in best[1] else told[at][1])]
    return best[0], effects


def _ways_to_light(board, numbers):
    """Which branches the effects can light without the board: tuples of indexes, the best one among them."""
    if board.WORD != "by":
        # Where the branches weigh the same, the effects best light those that are the least likely to be lit without.
        return [tuple(ascending([[number] for number in numbers])[:board.enough - 1])]
    found = [()]
    for at, weight in enumerate(board.weights):
        found = [*found, *[(*lit, at) for lit in found if _weight_of(board, lit) + weight < board.enough]]
    # Only those that cannot light one more branch: more effects never make the claim weaker.
    return [lit for lit in found if all([at in lit or _weight_of(board, lit) + weight >= board.enough
                                         for at, weight in enumerate(board.weights)])]


def _weight_of(board, lit):
    return sum([board.weights[at] for at in lit])

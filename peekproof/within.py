"""Whether one watch is lit only where another one is lit by then."""

from peekproof.beside import UndecidedPairs, refuse_bad_crowds
from peekproof.papers import Denial, Paper
from peekproof.standings import row_to
from peekproof.watches import refuse_unlike_watches

_MOST_PAIRS = 200


class Within(Paper):
    """The undecided pairs, from none of which one is lit ahead of other."""

    def __init__(self, pairs):
        super().__init__("within", pairs)
        self.pairs = self.parts[0]


class Row(Denial):
    """A row that lights one, behind which other is not lit."""

    def __init__(self, row):
        super().__init__("row", row)
        self.row = self.parts[0]


def within(one, other, crowds=None):
    """A Within, or a Row with the least row that lights one and not other."""
    refuse_unlike_watches(one, other)
    if crowds is not None:
        refuse_bad_crowds(one, other, crowds)
    undecided = UndecidedPairs(one, other, crowds)
    ways = undecided.met(_MOST_PAIRS)
    # Pairs and signs in the order in which they are met are in the order of their least rows, too.
    for pair in ways:
        for sign in undecided.counting(pair):
            if undecided.gap(undecided.moved(pair, sign)) > 0:
                return Row([*row_to(pair, ways), sign])
    return Within(list(ways))

"""Handled studies: what is drawn is seen by the world, which chooses what the plain watch is told."""

from peekproof.checks import is_one_of, is_within
from peekproof.costs import Costs
from peekproof.errors import BadCosts, BadNumbers, NoSign, NoState, UnlikeArms
from peekproof.handling import Handiwork
from peekproof.studies import Study


class Handled(Study):
    """The base of handled studies."""

    BUDGET = 2

    def __init__(self, handling):
        made = Handiwork(handling)
        super().__init__(made.watch, made.crowds)
        self.plain = handling.plain
        self.most = handling.most
        self.pockets = handling.pockets
        self._stands = made.stands
        self._hears = made.hears

    def origins(self):
        """Yields for each state of its watch the tuple (state, plain state, left, held)."""
        for state, (plain, pocket) in self._stands.items():
            yield (state, plain, pocket[0], pocket[1])

    def origin(self, state):
        """The triple (plain state, left, held) for which a state of its watch stands."""
        if not is_one_of(state, self._stands):
            raise NoState(state)
        plain, pocket = self._stands[state]
        return plain, pocket[0], pocket[1]

    def drawn(self, state, sign):
        """The plain sign that is drawn if this sign comes at this state, None if a held one is told."""
        return self._heard_at(state, sign)[0]

    def heard(self, state, sign):
        """The plain signs that the plain watch is told then."""
        return self._heard_at(state, sign)[1]

    def told(self, row):
        """All plain signs that the plain watch is told along a row of its watch."""
        self.watch.after(row)
        place = self.watch.first
        signs = []
        for sign in row:
            signs = [*signs, *self._hears[place][sign][1]]
            place = self.watch.place(place, sign)
        return tuple(signs)

    def carried(self, costs):
        """The costs of its watch that carry these of the plain watch: they are due when a sign is drawn."""
        if not isinstance(costs, Costs):
            raise BadCosts("costs")
        if costs.watch != self.plain.watch:
            raise BadCosts("watch")
        return Costs(self.watch, {state: {sign: costs[self._stands[state][0], drawn]
                                          for sign, (drawn, _) in line.items() if drawn is not None}
                                  for state, line in self._hears.items()})

    def _heard_at(self, state, sign):
        if not is_one_of(state, self._hears):
            raise NoState(state)
        if not is_one_of(sign, self._hears[state]):
            raise NoSign(sign)
        return self._hears[state][sign]


def refuse_bad_budget(most):
    """Refuses what is no budget."""
    if not is_within(most, 0, Handled.BUDGET):
        raise BadNumbers("most")


def refuse_unlike_signs_of_arms(watch):
    """Refuses the first arm of the watch beside the first one with other signs, or in another order."""
    first, signs = watch.arms[0]
    for arm, other in watch.arms:
        if other != signs:
            raise UnlikeArms(first, arm)

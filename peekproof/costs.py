"""Costs: what each sign of a trial costs, state by state."""

from peekproof.checks import is_one_of
from peekproof.cost_text import read_costs
from peekproof.errors import BadCosts, NoSign
from peekproof.ratios import Ratio, as_ratio
from peekproof.watches import refuse_no_watch


class Costs:
    """Costs of this watch; what the table leaves out costs 0."""

    def __init__(self, watch, table):
        refuse_no_watch(watch, "watch")
        if not _is_cost_table(watch, table):
            raise BadCosts("table")
        self.watch = watch
        self._costs = {state: _line_of(watch.signs_of(state), table.get(state, {})) for state in watch.states}

    @staticmethod
    def each_trial(watch):
        """Each sign costs 1 in each state."""
        refuse_no_watch(watch, "watch")
        return Costs(watch, {state: {sign: 1 for sign in watch.signs_of(state)} for state in watch.states})

    @staticmethod
    def of(watch, signs):
        """Each of these signs costs this in each state whose arm has it."""
        refuse_no_watch(watch, "watch")
        known = [sign for _, arm_signs in watch.arms for sign in arm_signs]
        if not _are_costs(signs, known):
            raise BadCosts("signs")
        return Costs(watch, {state: {sign: signs[sign] for sign in watch.signs_of(state) if sign in signs}
                             for state in watch.states})

    def __getitem__(self, at):
        state, sign = at
        if not is_one_of(sign, self.watch.signs_of(state)):
            raise NoSign(sign)
        return self._costs[state][sign]

    def __iter__(self):
        raise TypeError("costs are asked of a state and a sign")

    def __add__(self, other):
        if not isinstance(other, Costs):
            raise BadCosts("other")
        if other.watch != self.watch:
            raise BadCosts("watch")
        return Costs(self.watch, {state: {sign: cost + other[state, sign] for sign, cost in line.items()}
                                  for state, line in self._costs.items()})

    def __mul__(self, other):
        ratio = as_ratio(other)
        if ratio is None or ratio.sign < 0:
            raise BadCosts("ratio")
        return Costs(self.watch, {state: {sign: cost * ratio for sign, cost in line.items()}
                                  for state, line in self._costs.items()})

    def __bool__(self):
        return any([cost.sign > 0 for line in self._costs.values() for cost in line.values()])

    def __eq__(self, other):
        return isinstance(other, Costs) and self.watch == other.watch and self._costs == other._costs

    def __str__(self):
        return " ; ".join(_parts_of_text(self._costs))

    @staticmethod
    def read(text, watch):
        """The costs of this watch with this text."""
        refuse_no_watch(watch, "watch")
        return Costs(watch, read_costs(text, watch))


def _is_cost_table(watch, table):
    if not isinstance(table, dict) or not all([state in watch for state in table]):
        return False
    return all([_are_costs(line, watch.signs_of(state)) for state, line in table.items()])


def _are_costs(costs, signs):
    """Whether it is a dict from some of the signs to ratios from 0 on."""
    if not isinstance(costs, dict) or not all([is_one_of(sign, signs) for sign in costs]):
        return False
    told = [as_ratio(cost) for cost in costs.values()]
    return all([cost is not None and cost.sign >= 0 for cost in told])


def _line_of(signs, costs):
    return {sign: Ratio.of(costs.get(sign, 0)) for sign in signs}


def _parts_of_text(costs):
    """For each state with a cost above 0 its words; a dash if there is none."""
    lines = [(state, [f"{sign} {cost}" for sign, cost in line.items() if cost.sign > 0])
             for state, line in costs.items()]
    parts = [" ".join([state, *line]) for state, line in lines if line]
    return parts if parts else ["-"]

"""The least capital that a bet can have when a study is lit."""

from peekproof.bets import fault, refuse_unfit_bet
from peekproof.errors import NoPurse, Unfair
from peekproof.moves import refuse_too_many_states
from peekproof.papers import Denial, Paper
from peekproof.ranking import least_rows
from peekproof.ratios import Ratio
from peekproof.standings import LIT


class Capital(Paper):
    """The least capital, with those from each state on, and a possible row that lights the study with it."""

    def __init__(self, number, table, row):
        super().__init__("capital", number, table, row)
        self.number = self.parts[0]
        self.table = self.parts[1]
        self.row = self.parts[2]


class Never(Denial):
    """No possible row lights the study."""

    def __init__(self):
        super().__init__("never")


class Ruined(Denial):
    """A possible row that lights the study with capital 0."""

    def __init__(self, row):
        super().__init__("ruined", row)
        self.row = self.parts[0]


class Ring(Denial):
    """A way to a state, a ring back to it along which the capital falls, and the rest from there to lit."""

    def __init__(self, way, ring, rest):
        super().__init__("ring", way, ring, rest)
        self.way = self.parts[0]
        self.ring = self.parts[1]
        self.rest = self.parts[2]


def least_capital(study, bet):
    """A Never, a Ruined, a Ring or a Capital: what the least capital of the bet in the study is."""
    refuse_unfit_bet(study, bet)
    refuse_too_many_states(study)
    leads = ways_to_lit(study)
    if study.watch.first not in leads:
        return Never()
    steps = [(state, sign, study.place(state, sign), bet.factor(state, sign))
             for state in leads for sign in study.possible_of(state)]
    steps = [step for step in steps if step[2] == LIT or step[2] in leads]
    for state, sign, place, factor in steps:
        if factor.sign == 0:
            return Ruined([*least_rows(study)[state], sign, *_row_along(leads, place)])
    worths, ways = _least_worths(steps)
    state = _state_on_ring(ways)
    if state is not None:
        return Ring(least_rows(study)[state], _ring_from(ways, state), _row_along(leads, state))
    return Capital(worths[study.watch.first], {state: worths[state] for state in leads},
                   _row_along(ways, study.watch.first))


def purse_of(study, bet):
    """The purse that the bet shows: 1 over the least capital from each state on."""
    refuse_unfit_bet(study, bet)
    found = fault(study, bet)
    if found is not None:
        raise Unfair(found[0], found[1])
    paper = least_capital(study, bet)
    if paper.word in ("ruined", "ring"):
        raise NoPurse(paper.word)
    table = dict(paper.table) if paper else {}
    return {state: Ratio(1).over(table[state]) if state in table else Ratio(0) for state in study.states}


def ways_to_lit(study):
    """For each state from which a possible row lights the study the sign and the place of a shortest such row."""
    ways = {}
    found = _leading_next(study, ways)
    while found:
        ways = {**ways, **found}
        found = _leading_next(study, ways)
    return ways


def _leading_next(study, ways):
    """The ways of the states not found yet from which one sign leads to lit or to a state that is."""
    found = {}
    for state in study.states:
        if state not in ways:
            steps = [(sign, study.place(state, sign)) for sign in study.possible_of(state)]
            leading = [step for step in steps if step[1] == LIT or step[1] in ways]
            if leading:
                found[state] = leading[0]
    return found


def _row_along(ways, place):
    """The signs by which these ways lead from the place to lit."""
    row = []
    while place != LIT:
        sign, place = ways[place]
        row.append(sign)
    return row


def _least_worths(steps):
    """The least products of factors from the states to lit, and the ways by which they come about.

    In rounds, each with the steps to what is new; as soon as some ways go round in a ring, this is told as it is: the
    product along such a ring is below 1, as its last way was less than what it came back to.
    """
    worths = {LIT: Ratio(1)}
    ways = {}
    fresh = {LIT: True}
    while fresh and _state_on_ring(ways) is None:
        found = {}
        for state, sign, place, factor in steps:
            if place in fresh:
                worth = factor * worths[place]
                best = found[state][0] if state in found else worths.get(state)
                if best is None or worth.is_below(best):
                    found[state] = (worth, sign, place)
        worths = {**worths, **{state: told[0] for state, told in found.items()}}
        ways = {**ways, **{state: (told[1], told[2]) for state, told in found.items()}}
        fresh = found
    return worths, ways


def _state_on_ring(ways):
    """A state from which the ways lead back to it; None if all of them lead to lit."""
    for start in ways:
        place = start
        for _ in ways:
            place = ways[place][1] if place in ways else place
        if place in ways:
            return place
    return None


def _ring_from(ways, state):
    """The signs by which the ways lead from the state back to it."""
    sign, place = ways[state]
    row = [sign]
    while place != state:
        sign, place = ways[place]
        row.append(sign)
    return row

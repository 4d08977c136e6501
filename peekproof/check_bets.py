"""Whether papers about watches beside one another, and about the capitals of bets, are right."""

from peekproof.beside import OpenPairs, UndecidedPairs, refuse_bad_crowds
from peekproof.bets import refuse_unfit_bet
from peekproof.checks import is_one_of, is_within
from peekproof.errors import UnlikeArms
from peekproof.leads import Ahead, Lead
from peekproof.ratios import Ratio, as_ratio, means_compared
from peekproof.showing import amounts_over, is_equal_ratio, place_behind
from peekproof.standings import LIT
from peekproof.walks import Capital, Never, Ring, Ruined, ways_to_lit
from peekproof.watches import refuse_unlike_watches
from peekproof.within import Row, Within


def shows_within(one, other, value, crowds=None):
    """Whether value is a right Within, or a Row that lights one and not other."""
    refuse_unlike_watches(one, other)
    if crowds is not None:
        refuse_bad_crowds(one, other, crowds)
    undecided = UndecidedPairs(one, other, crowds)
    if isinstance(value, Within):
        return _are_closed_pairs(undecided, value.pairs)
    return isinstance(value, Row) and _is_row_ahead(undecided, value.row)


def shows_lead(one, other, crowds, value):
    """Whether value is a right Lead."""
    refuse_unlike_watches(one, other)
    refuse_bad_crowds(one, other, crowds)
    beside = OpenPairs(one, other, crowds)
    pairs = _met_of_one_arm(beside)
    if pairs is None or not isinstance(value, Lead):
        return False
    floors = {pair: Ratio(beside.gap(pair)) for pair in pairs}
    return _are_lines(beside, floors, -1, value)


def shows_ahead(one, other, crowds, value):
    """Whether value is a right Ahead."""
    refuse_unlike_watches(one, other)
    refuse_bad_crowds(one, other, crowds)
    beside = UndecidedPairs(one, other, crowds)
    pairs = _met_of_one_arm(beside)
    if pairs is None or not isinstance(value, Ahead):
        return False
    return _are_lines(beside, {pair: Ratio(0) for pair in pairs}, 0, value)


def shows_capital(study, bet, value):
    """Whether value is a Never, a Ruined, a Ring or a Capital that is right."""
    refuse_unfit_bet(study, bet)
    if isinstance(value, Never):
        return study.watch.first not in ways_to_lit(study)
    if isinstance(value, Ruined):
        return place_behind(study, value.row) == LIT and bet(value.row).sign == 0
    if isinstance(value, Ring):
        return _is_ring(study, bet, value)
    return isinstance(value, Capital) and _is_capital(study, bet, value)


def _are_closed_pairs(undecided, pairs):
    """Whether they are different undecided pairs of one arm, with the first one, that lead to no row ahead."""
    if not isinstance(pairs, tuple) or not all([_is_pair(undecided, pair) for pair in pairs]):
        return False
    known = {pair: True for pair in pairs}
    if len(known) != len(pairs) or undecided.start not in known:
        return False
    if any([undecided.asks_two(pair) for pair in pairs]):
        return False
    behind = [undecided.moved(pair, sign) for pair in pairs for sign in undecided.counting(pair)]
    return all([pair in known or not undecided.goes_on(pair) and undecided.gap(pair) <= 0 for pair in behind])


def _is_pair(undecided, pair):
    """Whether any value is an undecided pair."""
    if not isinstance(pair, tuple) or len(pair) != 2 or pair[0] not in undecided.one:
        return False
    return pair[1] != LIT and (pair[1] in undecided.other or is_one_of(pair[1], undecided.other.ends))


def _is_row_ahead(undecided, row):
    """Whether it is a row of signs that count, at pairs of one arm, that lights one and not other."""
    if not isinstance(row, tuple):
        return False
    pair = undecided.start
    for sign in row:
        if not undecided.goes_on(pair) or undecided.asks_two(pair) or not undecided.counts(pair, sign):
            return False
        pair = undecided.moved(pair, sign)
    return undecided.gap(pair) > 0


def _met_of_one_arm(beside):
    """The pairs, as met, None if one of them asks two arms."""
    try:
        pairs = list(beside.met(None))
    except UnlikeArms:
        return None
    return pairs


def _are_lines(beside, floors, least, value):
    """Whether the lines tell a table that is right and its least one, and the number is its first worth.

    The floors are what each worth is not below; what has ended counts its difference, or the least if this is more.
    """
    pairs = list(floors)
    if not isinstance(value.lines, tuple) or len(value.lines) != len(pairs):
        return False
    if not all([_is_line(beside, pair, line) for pair, line in zip(pairs, value.lines)]):
        return False
    worths = {pair: Ratio.of(line[2]) for pair, line in zip(pairs, value.lines)}
    ranks = {pair: line[4] for pair, line in zip(pairs, value.lines)}
    if not all([_is_shown(beside, floors, least, worths, ranks, line) for line in value.lines]):
        return False
    return is_equal_ratio(value.number, worths[beside.start])


def _is_shown(beside, floors, least, worths, ranks, line):
    """Whether the worth of the line is not below its floor and the means, and is what the line tells that it is."""
    pair = (line[0], line[1])
    worth = worths[pair]
    behind = [beside.moved(pair, sign) for sign in beside.one.signs_of(pair[0])]
    told = [worths.get(place, Ratio(max(beside.gap(place), least))) for place in behind]
    corners = beside.crowds[beside.arm_at(pair)].corners
    orders = means_compared(corners, told, worth)
    if worth.is_below(floors[pair]) or max(orders) > 0:
        return False
    if line[3] is None:
        return worth == floors[pair]
    return orders[line[3]] == 0 and _leads_down(corners[line[3]], behind, ranks, line[4])


def _is_line(beside, pair, line):
    """Whether any value is a line of this pair: its places, a ratio, and None with 0 or a corner with a rank."""
    if not isinstance(line, tuple) or len(line) != 5 or as_ratio(line[2]) is None:
        return False
    if not is_one_of(line[0], (pair[0],)) or not is_one_of(line[1], (pair[1],)):
        return False
    if line[3] is None:
        return is_within(line[4], 0, 0)
    return is_within(line[3], 0, len(beside.crowds[beside.arm_at(pair)]) - 1) and is_within(line[4], 1, None)


def _leads_down(corner, behind, ranks, rank):
    """Whether some sign with a chance leads to a pair without a line or with a lesser rank."""
    return any([chance.sign > 0 and ranks.get(pair, 0) < rank for chance, pair in zip(corner, behind)])


def _is_ring(study, bet, value):
    if not all([isinstance(part, tuple) for part in value.parts]) or not value.ring:
        return False
    start = place_behind(study, value.way)
    if start not in study or place_behind(study, (*value.way, *value.ring)) != start:
        return False
    row = (*value.way, *value.ring, *value.rest)
    if place_behind(study, row) != LIT or bet(row).sign == 0:
        return False
    return bet((*value.way, *value.ring)).is_below(bet(value.way))


def _is_capital(study, bet, value):
    leads = ways_to_lit(study)
    number = as_ratio(value.number)
    worths = amounts_over(value.table, list(leads))
    if number is None or worths is None or any([worth.sign == 0 for worth in worths.values()]):
        return False
    if place_behind(study, value.row) != LIT or bet(value.row) != number or worths[study.watch.first] != number:
        return False
    worths[LIT] = Ratio(1)
    return not any([_is_above(study, bet, worths, state, sign) for state in leads for sign in study.possible_of(state)])


def _is_above(study, bet, worths, state, sign):
    """Whether the worth of the state is above the factor of the sign times the worth of the place behind it."""
    place = study.place(state, sign)
    return place in worths and (bet.factor(state, sign) * worths[place]).is_below(worths[state])

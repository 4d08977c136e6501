"""What the document says of greatest and least numbers, ranks and traps, told by trying everything."""

import itertools
from fractions import Fraction

from peekproof.ratios import Ratio


def number(value):
    """The fraction of a ratio or an integer, None for any other value."""
    if isinstance(value, Ratio):
        return Fraction(value.top, value.bottom)
    return Fraction(value) if type(value) is int else None


def moves(study, state):
    """For each corner the list of (chance, place) with a chance above 0."""
    places = study.watch.places_of(state)
    return [[(number(chance), place) for chance, place in zip(corner, places) if number(chance) > 0]
            for corner in study.corners_of(state)]


def mean(move, table, worths):
    return sum(chance * (worths[place] if place in worths else table[place]) for chance, place in move)


def worths_of(study, worths):
    if worths is None:
        return {end: Fraction(int(end == "lit")) for end in study.watch.ends}
    return {end: number(worth) for end, worth in worths.items()}


def choices(study):
    """Each steady world, a dict from the states to corner indexes."""
    ranges = [range(len(study.corners_of(state))) for state in study.states]
    for picks in itertools.product(*ranges):
        yield dict(zip(study.states, picks))


def solve(lines):
    """The numbers of a system with just one solution, over fractions."""
    many = len(lines)
    lines = [list(line) for line in lines]
    for at in range(many):
        pivot = next(row for row in range(at, many) if lines[row][at])
        lines[at], lines[pivot] = lines[pivot], lines[at]
        lines[at] = [item / lines[at][at] for item in lines[at]]
        for row in range(many):
            if row != at and lines[row][at]:
                share = lines[row][at]
                lines[row] = [here - share * there for here, there in zip(lines[row], lines[at])]
    return [line[-1] for line in lines]


def steady_table(study, corners, worths):
    """The least table from 0 on that is its mean at the corners, by fractions."""
    chosen = {state: moves(study, state)[corners[state]] for state in study.states}
    live = set()
    while True:
        more = {state for state in study.states if any(worths.get(place, 0) > 0 or place in live
                                                       for _, place in chosen[state])}
        if more <= live:
            break
        live |= more
    order = [state for state in study.states if state in live]
    lines = []
    for state in order:
        line = [Fraction(int(state == other)) for other in order] + [Fraction(0)]
        for chance, place in chosen[state]:
            if place in live:
                line[order.index(place)] -= chance
            elif place in worths:
                line[-1] += chance * worths[place]
        lines.append(line)
    found = dict(zip(order, solve(lines)))
    return {state: found.get(state, Fraction(0)) for state in study.states}


def fixed_table(study, part, kind):
    """The dict that a part tells, if it is the tuple of pairs of one from just the states to values of the kind."""
    if not isinstance(part, tuple) or [pair[0] for pair in part] != sorted(study.states):
        return None
    return dict(part) if all(kind(value) for _, value in part) else None


def is_amount(value):
    return number(value) is not None and number(value) >= 0


def is_rank(value):
    return type(value) is int and value >= 1


def are_corners(study, corners):
    return corners is not None and all(type(corners[state]) is int and 0 <= corners[state] < len(moves(study, state))
                                       for state in study.states)


def is_right_greatest(study, paper, worths=None):
    told = worths_of(study, worths)
    table = fixed_table(study, paper.table, is_amount)
    corners = fixed_table(study, paper.corners, lambda value: True)
    if table is None or not are_corners(study, corners) or paper.number != table[study.watch.first]:
        return False
    table = {state: number(value) for state, value in table.items()}
    ranks = dict(paper.ranks)
    if list(paper.ranks) != sorted(paper.ranks) or set(ranks) != {state for state in table if table[state] > 0}:
        return False
    for state in study.states:
        means = [mean(move, table, told) for move in moves(study, state)]
        if max(means) > table[state] or means[corners[state]] != table[state]:
            return False
        kept = moves(study, state)[corners[state]]
        if state in ranks and not (is_rank(ranks[state]) and any(
                told.get(place, 0) > 0 or ranks.get(place, ranks[state]) < ranks[state] for _, place in kept)):
            return False
    return True


def are_sure_ranks(study, ranks):
    return all(is_rank(ranks[state]) and all(
        any(place not in ranks or ranks[place] < ranks[state] for _, place in move) for move in moves(study, state))
        for state in study.states)


def is_right_least(study, paper, worths=None):
    told = worths_of(study, worths)
    table = fixed_table(study, paper.table, is_amount)
    corners = fixed_table(study, paper.corners, lambda value: True)
    ranks = fixed_table(study, paper.ranks, is_rank)
    if table is None or ranks is None or not are_corners(study, corners) or not are_sure_ranks(study, ranks):
        return False
    if paper.number != table[study.watch.first]:
        return False
    table = {state: number(value) for state, value in table.items()}
    for state in study.states:
        means = [mean(move, table, told) for move in moves(study, state)]
        if min(means) < table[state] or means[corners[state]] != table[state]:
            return False
    return True


def greatest_trap(study):
    """The states of the greatest trap, with the first corner that stays for each; an empty dict if there is none."""
    caught = list(study.states)
    while True:
        stays = {}
        for state in caught:
            for index, move in enumerate(moves(study, state)):
                if all(place in caught for _, place in move):
                    stays[state] = index
                    break
        if len(stays) == len(caught):
            return stays
        caught = list(stays)


def least_sure_ranks(study):
    """The least ranks that keep the rule of the document, found from 1 up."""
    ranks = {state: 1 for state in study.states}
    for _ in range(len(ranks) ** 2 + 1):
        ranks = {state: 1 + max(min(ranks.get(place, 0) for _, place in move) for move in moves(study, state))
                 for state in study.states}
        if max(ranks.values()) > len(ranks):
            return None
    return ranks

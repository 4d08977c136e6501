"""What the document says of two watches beside one another, told by trying rows and kept corners."""

import itertools
from fractions import Fraction

from tests.study_oracle import number, solve


def step(one, other, pair, sign):
    return tuple(watch.place(place, sign) if place in watch.states else place for watch, place in zip((one, other), pair))


def difference(pair):
    return (pair[0] == "lit" and pair[1] != "lit") - (pair[1] == "lit" and pair[0] != "lit")


def counting(one, pair, crowds):
    """The signs that count at the pair, by the corners of the crowd of the arm asked."""
    signs = one.signs_of(pair[0])
    if crowds is None:
        return list(signs)
    corners = crowds[one.arm_of(pair[0])].corners
    return [sign for at, sign in enumerate(signs) if any(number(corner[at]) for corner in corners)]


def goes_on(one, pair, is_lead):
    return pair[0] in one.states and (is_lead or pair[1] != "lit")


def met(one, other, crowds, is_lead):
    """The pairs as met; (None, the first one that asks two arms, how many were met ahead of it) if one does."""
    start = (one.first, other.first)
    found = [start]
    for pair in found:
        if pair[1] in other.states and other.arm_of(pair[1]) != one.arm_of(pair[0]):
            return None, pair, found.index(pair)
        # Pairs are looked at as they are met, not as they are gone on from.
        for sign in counting(one, pair, crowds):
            behind = step(one, other, pair, sign)
            if goes_on(one, behind, is_lead) and behind not in found:
                if behind[1] in other.states and other.arm_of(behind[1]) != one.arm_of(behind[0]):
                    return None, behind, len(found)
                found.append(behind)
    return found, None, None


def least_row(one, other, crowds, most):
    """The least row of at most so many signs that count that lights one and not other, by all rows in order."""
    rows = [((), (one.first, other.first))]
    for _ in range(most):
        longer = []
        for row, pair in rows:
            if goes_on(one, pair, False):
                for sign in counting(one, pair, crowds):
                    longer.append(((*row, sign), step(one, other, pair, sign)))
        for row, pair in longer:
            if difference(pair) == 1:
                return row
        rows = longer
    return None


def floors(pairs, is_lead):
    return [Fraction(difference(pair)) if is_lead else Fraction(0) for pair in pairs]


def outside(pair, is_lead):
    """What a pair that does not go on counts."""
    return Fraction(difference(pair) if is_lead else difference(pair) == 1)


def moves_at(one, other, crowds, pair):
    """For each corner the pairs of a chance above 0 and the pair behind it."""
    signs = one.signs_of(pair[0])
    return [[(number(chance), step(one, other, pair, sign)) for sign, chance in zip(signs, corner) if number(chance)]
            for corner in crowds[one.arm_of(pair[0])].corners]


def worths(one, other, crowds, pairs, is_lead):
    """The greatest mean at each pair over all worlds that keep, at each pair, a corner or a look; None where too many."""
    told = [moves_at(one, other, crowds, pair) for pair in pairs]
    many = 1
    for line in told:
        many *= len(line) + 1
    if many > 1500:
        return None
    best = list(floors(pairs, is_lead))
    for picks in itertools.product(*[[None, *line] for line in told]):
        best = [max(one_worth, other_worth) for one_worth, other_worth
                in zip(best, kept_worths(pairs, picks, is_lead))]
    return best


def kept_worths(pairs, picks, is_lead):
    """What this world gets on the mean from each pair; -1, which is never more, where it may never look."""
    looks = {pair: value for pair, value in zip(pairs, floors(pairs, is_lead))}
    leaves = {at for at, pick in enumerate(picks) if pick is None or any(pair not in looks for _, pair in pick)}
    while True:
        more = {at for at, pick in enumerate(picks) if at in leaves or any(pairs.index(pair) in leaves for _, pair in pick or []
                                                                         if pair in looks)}
        if more == leaves:
            break
        leaves = more
    stuck = {at for at in range(len(pairs)) if at not in leaves}
    lines = []
    for at, (pair, pick) in enumerate(zip(pairs, picks)):
        line = [Fraction(int(at == other)) for other in range(len(pairs))] + [Fraction(0)]
        if at in stuck:
            line[-1] = Fraction(-1)
        elif pick is None:
            line[-1] = looks[pair]
        else:
            for chance, behind in pick:
                if behind in looks:
                    line[pairs.index(behind)] -= chance
                else:
                    line[-1] += chance * outside(behind, is_lead)
        lines.append(line)
    return solve(lines)


def are_right_lines(one, other, crowds, paper, is_lead):
    """Whether the lines and the number of a paper are as told, any values in each part."""
    pairs, _, _ = met(one, other, crowds, is_lead)
    if pairs is None or not isinstance(paper.lines, tuple) or len(paper.lines) != len(pairs):
        return False
    for pair, line in zip(pairs, paper.lines):
        if not isinstance(line, tuple) or len(line) != 5 or not isinstance(line[0], str) or not isinstance(line[1], str):
            return False
        if line[:2] != pair or number(line[2]) is None:
            return False
    told = {pair: number(line[2]) for pair, line in zip(pairs, paper.lines)}
    ranks = {pair: line[4] for pair, line in zip(pairs, paper.lines)}
    for pair, line, floor in zip(pairs, paper.lines, floors(pairs, is_lead)):
        moves = moves_at(one, other, crowds, pair)
        means = [sum(chance * (told[behind] if behind in told else outside(behind, is_lead)) for chance, behind in move)
                 for move in moves]
        if told[pair] < max([floor, *means]):
            return False
        kept, rank = line[3], line[4]
        if type(rank) is not int:
            return False
        if kept is None:
            if rank != 0 or told[pair] != floor:
                return False
        elif type(kept) is not int or not 0 <= kept < len(moves) or means[kept] != told[pair] or rank < 1:
            return False
        # The ranks of the other lines count only once all of them are known to be integers.
    if not all(type(rank) is int for rank in ranks.values()):
        return False
    for pair, line in zip(pairs, paper.lines):
        if line[3] is not None:
            move = moves_at(one, other, crowds, pair)[line[3]]
            if not any(behind not in ranks or ranks[behind] < line[4] for _, behind in move):
                return False
    return number(paper.number) == told[pairs[0]]


def is_right_within(one, other, crowds, pairs):
    """Whether the pairs of a Within are as told, any values."""
    if not isinstance(pairs, tuple):
        return False
    for pair in pairs:
        if not isinstance(pair, tuple) or len(pair) != 2 or not all(isinstance(place, str) for place in pair):
            return False
        if pair[0] not in one.states or (pair[1] not in other.states and pair[1] not in other.ends) or pair[1] == "lit":
            return False
        if pair[1] in other.states and one.arm_of(pair[0]) != other.arm_of(pair[1]):
            return False
    if len(set(pairs)) != len(pairs) or (one.first, other.first) not in pairs:
        return False
    for pair in pairs:
        for sign in counting(one, pair, crowds):
            behind = step(one, other, pair, sign)
            fits = behind in pairs or behind[1] == "lit" or (behind[0] not in one.states and behind[0] != "lit")
            if not fits:
                return False
    return True


def is_right_row(one, other, crowds, row):
    """Whether the row of a Row is as told, any values."""
    if not isinstance(row, tuple):
        return False
    pair = (one.first, other.first)
    for sign in row:
        if pair[0] not in one.states or (pair[1] in other.states and one.arm_of(pair[0]) != other.arm_of(pair[1])):
            return False
        if not isinstance(sign, str) or sign not in counting(one, pair, crowds):
            return False
        pair = step(one, other, pair, sign)
    return pair[0] == "lit" and pair[1] != "lit"

"""Which papers are right, told from the document's words with fractions, for papers of any values; and bent papers."""

from fractions import Fraction
from math import gcd

from peekproof.ratios import Ratio
from tests.study_oracle import moves, number

SPARE = (0, 1, 2, -1, True, False, None, "", "q0", "lit", (), (("q0", 1),), 1.5, [], {}, Ratio(1, 2), Ratio(0), Ratio(1),
         Ratio(-1, 2), 10 ** 30)


def table(part):
    """The dict of a part that is the tuple of one with strings as keys, None for any other value."""
    if not isinstance(part, tuple) or not all(isinstance(pair, tuple) and len(pair) == 2 for pair in part):
        return None
    keys = [pair[0] for pair in part]
    if not all(isinstance(key, str) for key in keys) or any(one >= other for one, other in zip(keys, keys[1:])):
        return None
    return dict(part)


def numbers_of(part, keys, least=0):
    told = table(part)
    if told is None or set(told) != set(keys) or any(number(value) is None for value in told.values()):
        return None
    found = {key: number(value) for key, value in told.items()}
    return None if least is not None and any(value < least for value in found.values()) else found


def ranks_of(part, keys):
    told = table(part)
    if told is None or set(told) != set(keys) or not all(type(value) is int and value >= 1 for value in told.values()):
        return None
    return told


def picks_of(study, part, keys):
    told = table(part)
    if told is None or set(told) != set(keys):
        return None
    fits = all(type(value) is int and 0 <= value < len(moves(study, key)) for key, value in told.items())
    return told if fits else None


def reached(study, row):
    """The place behind a possible row, None for any other value."""
    place = study.watch.first
    if not isinstance(row, tuple):
        return None
    for sign in row:
        if place not in study.states or not isinstance(sign, str) or sign not in study.possible_of(place):
            return None
        place = study.watch.place(place, sign)
    return place


def told_worths(study, worths):
    if worths is None:
        return {end: Fraction(int(end == "lit")) for end in study.watch.ends}
    return {end: number(worth) for end, worth in worths.items()}


def mean(move, told, worths):
    return sum(chance * (worths[place] if place in worths else told[place]) for chance, place in move)


def are_sure_ranks(study, part):
    ranks = ranks_of(part, study.states)
    return ranks is not None and all(any(ranks.get(place, 0) < ranks[state] for _, place in move)
                                     for state in study.states for move in moves(study, state))


def is_trap(study, paper):
    told = table(paper.corners)
    if not told or not set(told) <= set(study.states) or reached(study, paper.row) not in told:
        return False
    picks = picks_of(study, paper.corners, told)
    return picks is not None and all(place in told for state, pick in picks.items()
                                     for _, place in moves(study, state)[pick])


def is_greatest(study, paper, worths=None):
    worths = told_worths(study, worths)
    told = numbers_of(paper.table, study.states)
    picks = picks_of(study, paper.corners, study.states)
    if told is None or picks is None or number(paper.number) != told[study.watch.first]:
        return False
    ranks = ranks_of(paper.ranks, [state for state in told if told[state] > 0])
    if ranks is None:
        return False
    for state in study.states:
        means = [mean(move, told, worths) for move in moves(study, state)]
        if max(means) > told[state] or means[picks[state]] != told[state]:
            return False
    return all(any(worths.get(place, 0) > 0 or ranks.get(place, ranks[state]) < ranks[state]
                   for _, place in moves(study, state)[picks[state]]) for state in ranks)


def is_least(study, paper, worths=None):
    worths = told_worths(study, worths)
    told = numbers_of(paper.table, study.states)
    picks = picks_of(study, paper.corners, study.states)
    if told is None or picks is None or number(paper.number) != told[study.watch.first]:
        return False
    for state in study.states:
        means = [mean(move, told, worths) for move in moves(study, state)]
        if min(means) < told[state] or means[picks[state]] != told[state]:
            return False
    return are_sure_ranks(study, paper.ranks)


def cost_of(study, costs, state, index):
    """The mean cost of a trial at this corner."""
    corner = study.corners_of(state)[index]
    return sum(number(chance) * number(costs[state, sign])
               for sign, chance in zip(study.watch.signs_of(state), corner))


def is_dearest(study, costs, paper):
    told = numbers_of(paper.heights, study.states)
    picks = picks_of(study, paper.corners, study.states)
    if told is None or picks is None or number(paper.number) != told[study.watch.first]:
        return False
    ranks = ranks_of(paper.ranks, [state for state in told if told[state] > 0])
    if ranks is None:
        return False
    for state in study.states:
        outlays = [cost_of(study, costs, state, index) + sum(chance * told.get(place, 0) for chance, place in move)
                   for index, move in enumerate(moves(study, state))]
        if max(outlays) > told[state] or outlays[picks[state]] != told[state]:
            return False
    return all(any(ranks.get(place, 0) < ranks[state] for _, place in moves(study, state)[picks[state]])
               for state in ranks)


def is_endless(study, costs, paper):
    told = table(paper.corners)
    if not told or not set(told) <= set(study.states) or reached(study, paper.row) not in told:
        return False
    picks, ranks = picks_of(study, paper.corners, told), ranks_of(paper.ranks, told)
    if picks is None or ranks is None:
        return False
    for state, pick in picks.items():
        places = [place for _, place in moves(study, state)[pick]]
        if not all(place in told for place in places):
            return False
        if ranks[state] == 1 and not cost_of(study, costs, state, pick):
            return False
        if ranks[state] > 1 and not any(ranks[place] < ranks[state] for place in places):
            return False
    return True


def purse_of_end(study, part, end):
    """The purse for the worth 1 of this end that the part tells, none of it above 1; None for any other value."""
    told = numbers_of(part, study.states)
    worths = {other: Fraction(int(other == end)) for other in study.watch.ends}
    if told is None or max(told.values()) > 1:
        return None
    fits = all(mean(move, told, worths) <= told[state] for state in study.states for move in moves(study, state))
    return told if fits else None


def is_seldom(study, paper, end):
    purse = purse_of_end(study, paper.purse, end)
    return purse is not None and purse[study.watch.first] < 1


def is_soonest(study, paper, end):
    purse = purse_of_end(study, paper.purse, end)
    if purse is None or purse[study.watch.first] != 1:
        return False
    ones = [state for state in study.states if purse[state] == 1]
    means, picks = numbers_of(paper.means, ones, None), picks_of(study, paper.corners, ones)
    if means is None or picks is None or number(paper.number) != means[study.watch.first]:
        return False
    for state in ones:
        told = {index: 1 + sum(chance * means.get(place, 0) for chance, place in move)
                for index, move in enumerate(moves(study, state))
                if all(place == end or place in ones for _, place in move)}
        if picks[state] not in told or told[picks[state]] != means[state] or min(told.values()) < means[state]:
            return False
    return True


def is_shape(study, paper):
    ends, many = study.watch.ends, len(study.watch.ends)
    if many > 3 or paper.ends != ends or not are_sure_ranks(study, paper.ranks):
        return False
    rows = rows_of(paper.corners, many)
    if rows is None or not 1 <= len(rows) <= 24 or rows != sorted(set(rows)) or (many == 2 and len(rows) > 2):
        return False
    if any(min(row) < 0 or sum(row) != 1 for row in rows):
        return False
    if not isinstance(paper.worlds, tuple) or len(paper.worlds) != len(rows):
        return False
    return all(is_world(study, row, table(part)) for row, part in zip(rows, paper.worlds)) and are_sides(
        study, rows, paper.sides)


def rows_of(part, many):
    if not isinstance(part, tuple) or not all(isinstance(row, tuple) and len(row) == many for row in part):
        return None
    rows = [tuple(number(value) for value in row) for row in part]
    return None if any(None in row for row in rows) else rows


def is_world(study, row, world):
    ends, many = study.watch.ends, len(study.watch.ends)
    if world is None or set(world) != set(study.states):
        return False
    if not all(isinstance(pair, tuple) and len(pair) == 2 for pair in world.values()):
        return False
    picks = {state: pair[0] for state, pair in world.items()}
    if not all(type(pick) is int and 0 <= pick < len(moves(study, state)) for state, pick in picks.items()):
        return False
    told = rows_of(tuple(pair[1] for pair in world.values()), many)
    if told is None:
        return False
    told = dict(zip(world, told))
    for at, end in enumerate(ends):
        table_of_end = {state: line[at] for state, line in told.items()}
        worths = {other: Fraction(int(other == end)) for other in ends}
        if any(mean(moves(study, state)[picks[state]], table_of_end, worths) != told[state][at] for state in told):
            return False
    return told[study.watch.first] == row


def are_sides(study, rows, sides):
    from peekproof.shapes import Side
    many = len(study.watch.ends)
    if not isinstance(sides, tuple) or not all(type(side) is Side for side in sides):
        return False
    worths = [side.worths for side in sides]
    for told in worths:
        if not isinstance(told, tuple) or len(told) != many or not all(type(worth) is int for worth in told):
            return False
        if min(told) != 0 or gcd(*told) != 1:
            return False
    if worths != sorted(set(worths)):
        return False
    touched = []
    for side in sides:
        told = numbers_of(side.table, study.states)
        gains = dict(zip(study.watch.ends, [Fraction(worth) for worth in side.worths]))
        if told is None or number(side.number) != told[study.watch.first]:
            return False
        if any(mean(move, told, gains) > told[state] for state in study.states for move in moves(study, state)):
            return False
        means = [sum(worth * share for worth, share in zip(side.worths, row)) for row in rows]
        if max(means) != number(side.number):
            return False
        touched.append(means.count(max(means)))
    units = [tuple(int(at == end) for at in range(many)) for end in range(many)]
    if many == 1:
        return worths == []
    if many == 2 or len(rows) == 1:
        return worths == sorted(units)
    if len(rows) > 2:
        return len(worths) == len(rows) and touched == [2] * len(rows)
    rises = [there - here for here, there in zip(*rows)]
    wanted = [units[next(at for at in range(3) if rises[at] > 0)], units[next(at for at in range(3) if rises[at] < 0)]]
    both = [told for told, count in zip(worths, touched) if count == 2]
    return len(worths) == 4 and len(both) == 2 and sorted(wanted + both) == worths


def bent(rng, value):
    """The value with something in it changed, left out, put in, turned or doubled, or of another kind."""
    way = rng.randrange(10)
    if isinstance(value, tuple) and value and way < 9:
        at = rng.randrange(len(value))
        if way < 5:
            return (*value[:at], bent(rng, value[at]), *value[at + 1:])
        if way == 5:
            return value[:at] + value[at + 1:]
        if way == 6:
            return value[:at] + (value[at],) + value[at:]
        if way == 7:
            other = rng.randrange(len(value))
            turned = list(value)
            turned[at], turned[other] = turned[other], turned[at]
            return tuple(turned)
        return (*value[:at], rng.choice(SPARE), *value[at:])
    if isinstance(value, Ratio) and way < 6:
        return rng.choice([value + 1, value * 2, value - Ratio(1, 3), value.top, Ratio(1) - value])
    if type(value) is int and way < 6:
        return rng.choice([value + 1, value - 1, value + 7, Ratio(value), bool(value)])
    return rng.choice(SPARE)


def bent_paper(rng, paper):
    """A paper of the same class with a bent part; the bent parts of a Side within stay in a Side."""
    parts = list(paper.parts)
    for _ in range(rng.choice([1, 1, 2])):
        at = rng.randrange(len(parts))
        parts[at] = bent_sides(rng, parts[at]) if rng.randrange(2) else bent(rng, parts[at])
    return paper.__class__(*parts)


def bent_sides(rng, part):
    if not isinstance(part, tuple) or not part or not hasattr(part[0], "worths"):
        return bent(rng, part)
    at = rng.randrange(len(part))
    return (*part[:at], bent_paper(rng, part[at]) if hasattr(part[at], "worths") else part[at], *part[at + 1:])

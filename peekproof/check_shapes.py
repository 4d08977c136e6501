"""Whether the paper of a shape is right: by adding, comparing and walking alone."""

from math import gcd

from peekproof.checks import is_within
from peekproof.moves import none_above, refuse_no_study, worth_moves
from peekproof.outlines import few_worths, unit_of
from peekproof.ratios import Ratio, as_ratios, as_shares, mean_of
from peekproof.shapes import Shape, Side
from peekproof.showing import amounts_over, are_sure_ranks, is_equal_ratio, table_over


def shows_shape(study, value):
    """Whether any value is a right Shape of the study."""
    refuse_no_study(study)
    ends = study.watch.ends
    if not isinstance(value, Shape) or len(ends) > Shape.MOST_ENDS or value.ends != ends:
        return False
    if not are_sure_ranks(study, value.ranks) or not isinstance(value.corners, tuple):
        return False
    rows = [as_shares(corner, len(ends)) for corner in value.corners]
    if not 1 <= len(rows) <= Shape.MOST_CORNERS or any([row is None for row in rows]) or not _ascend(rows):
        return False
    if len(ends) == 2 and len(rows) > 2:
        return False
    return _are_worlds(study, rows, value.worlds) and _are_sides(study, rows, value.sides)


def _ascend(rows):
    """Whether each row is behind the one ahead of it: by their first ratios, then by the second ones."""
    return all([_is_behind(here, there) for here, there in zip(rows, rows[1:])])


def _is_behind(here, there):
    changes = [behind.compared(ahead) for ahead, behind in zip(here, there)]
    return [change for change in changes if change != 0][:1] == [1]


def _are_worlds(study, rows, worlds):
    if not isinstance(worlds, tuple) or len(worlds) != len(rows):
        return False
    return all([_is_world(study, row, table_over(world, study.states)) for row, world in zip(rows, worlds)])


def _is_world(study, row, world):
    """Whether this dict tells the chances of the ends under a steady world that gets the row."""
    many = len(study.watch.ends)
    if world is None or not all([_is_told_choice(study, state, world[state], many) for state in study.states]):
        return False
    chances = {end: unit_of(many, at) for at, end in enumerate(study.watch.ends)}
    for state in study.states:
        chances[state] = as_ratios(world[state][1])
    if chances[study.watch.first] != row:
        return False
    return all([_mean_row(study, state, world[state][0], chances) == chances[state] for state in study.states])


def _is_told_choice(study, state, choice, many):
    """Whether it is a pair of the index of a corner and of a ratio for each end."""
    if not isinstance(choice, tuple) or len(choice) != 2:
        return False
    told = as_ratios(choice[1])
    return is_within(choice[0], 0, len(study.corners_of(state)) - 1) and told is not None and len(told) == many


def _mean_row(study, state, index, chances):
    """The mean, at this corner, of what the chances tell of the places to which its signs lead."""
    ways = [(chance, chances[place]) for place, chance in zip(study.watch.places_of(state),
                                                              study.corners_of(state)[index]) if chance.sign > 0]
    shares = [chance for chance, _ in ways]
    return tuple([mean_of(shares, [row[at] for _, row in ways]) for at in range(len(study.watch.ends))])


def _are_sides(study, rows, sides):
    many = len(study.watch.ends)
    if not isinstance(sides, tuple) or not all([isinstance(side, Side) for side in sides]):
        return False
    worths = [side.worths for side in sides]
    if not all([_are_worths(told, many) for told in worths]) or not _are_told_worths(worths, rows, many):
        return False
    if not all([_has_purse(study, side) for side in sides]):
        return False
    touched = [_corners_touched(rows, side) for side in sides]
    if any([None in corners or not corners for corners in touched]):
        return False
    return many < 3 or len(rows) < 3 or all([len(corners) == 2 for corners in touched])


def _are_worths(value, many):
    if not isinstance(value, tuple) or len(value) != many or not all([is_within(worth, 0, None) for worth in value]):
        return False
    shared = 0
    for worth in value:
        shared = gcd(shared, worth)
    return min(value) == 0 and shared == 1


def _are_told_worths(worths, rows, many):
    """Whether they ascend, and are just those of few corners, or as many as there are corners."""
    if not all([here < there for here, there in zip(worths, worths[1:])]):
        return False
    if many < 3 or len(rows) < 3:
        return worths == few_worths(rows, many)
    return len(worths) == len(rows)


def _has_purse(study, side):
    table = amounts_over(side.table, study.states)
    if table is None or not is_equal_ratio(side.number, table[study.watch.first]):
        return False
    worths = {end: Ratio(worth) for end, worth in zip(study.watch.ends, side.worths)}
    return none_above(worth_moves(study, worths).surpluses(table))


def _corners_touched(rows, side):
    """The indexes of the corners that the side touches, and None for each one that it bars."""
    orders = [mean_of(row, side.worths).compared(side.number) for row in rows]
    return [None if order > 0 else at for at, order in enumerate(orders) if order >= 0]

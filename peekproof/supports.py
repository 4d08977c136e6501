"""What worlds of a sure study make of its ends: the furthest rows in each direction, and the corners they make.

A direction is a tuple of worths, integers from 0 on, one for each end; a world is told by the index of a move for each
state, its picks. Where several worlds are the best ones for a direction, a second direction tells which is meant.
"""

from math import gcd

from peekproof.moves import gains_of, mean_behind, worth_moves
from peekproof.ratios import Ratio, common_bottom, scaled_tops
from peekproof.solving import best_world


class Supports:
    """The moves of a sure study, with what each one leads to of each end."""

    def __init__(self, study):
        self.states = study.states
        self.many = len(study.watch.ends)
        lines = [worth_moves(study, {end: Ratio(int(end == other)) for end in study.watch.ends}).lines
                 for other in study.watch.ends]
        self.lines = [[(move[0], tuple([lines[end][at][index][1] for end in range(self.many)]), move[2])
                       for index, move in enumerate(line)] for at, line in enumerate(lines[0])]

    def lines_for(self, direction):
        """The moves that gain these worths."""
        return [[(scale, sum([share * worth for share, worth in zip(shares, direction)]), steps)
                 for scale, shares, steps in line] for line in self.lines]

    def best(self, direction, picks):
        """The picks of a best world for the direction, found from these, and its numbers: a Ratio for each state."""
        picks, numbers, bottom = best_world(self.lines_for(direction), picks, 1)
        return picks, [Ratio(number, bottom) for number in numbers]

    def furthest(self, direction, second, picks):
        """The picks of a world that is best for the direction, and of these best for the second one."""
        lines = self.lines_for(direction)
        picks, numbers, bottom = best_world(lines, picks, 1)
        best = [[index for index, move in enumerate(line) if mean_behind(move, numbers, bottom) == number * move[0]]
                for line, number in zip(lines, numbers)]
        # The pick stands first, so that the search begins with it.
        best = [[pick, *[index for index in indexes if index != pick]] for indexes, pick in zip(best, picks)]
        lines = [[line[index] for index in indexes] for line, indexes in zip(self.lines_for(second), best)]
        return [indexes[pick] for indexes, pick in zip(best, best_world(lines, [0] * len(lines), 1)[0])]

    def chances_under(self, picks):
        """For each state the chances of the ends from there on under this world."""
        chosen = [line[pick] for line, pick in zip(self.lines, picks)]
        columns = []
        for end in range(self.many):
            numbers, bottom = gains_of([(scale, shares[end], steps) for scale, shares, steps in chosen])
            columns.append([Ratio(number, bottom) for number in numbers])
        return [row for row in zip(*columns)]


def across(one, other, turn):
    """The direction in which the line from one row of three chances to the other one lies, on the side of the turn."""
    first, second, third = [there - here for here, there in zip(one, other)]
    return as_direction([(second - third) * turn, (third - first) * turn, (first - second) * turn])


def toward(one, other):
    """The direction from one row to the other one."""
    return as_direction([there - here for here, there in zip(one, other)])


def as_direction(ratios):
    """Integers, the least 0, without a common divisor above 1, whose means of chances rise as those of the ratios."""
    tops = scaled_tops(ratios, common_bottom(ratios))
    least = min(tops)
    shared = 0
    for top in tops:
        shared = gcd(shared, top - least)
    return tuple([(top - least) // shared for top in tops])

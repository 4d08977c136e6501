"""The best steady world, found by changing one that is not yet the best."""

from peekproof.moves import gains_of, mean_behind


def best_world(lines, start, order):
    """The index of a best move for each state, what this world gets from each state on, and the bottom of this.

    The lines are the moves at each state, order is 1 for the greatest numbers and -1 for the least ones. A move is
    changed only for one that is better by itself: so what the world gets never turns back, and no world comes twice.
    """
    picks = start
    while True:
        numbers, bottom = gains_of([line[pick] for line, pick in zip(lines, picks)])
        better = [_better_pick(line, pick, number, numbers, bottom, order)
                  for line, pick, number in zip(lines, picks, numbers)]
        if better == picks:
            return picks, numbers, bottom
        picks = better


def _better_pick(line, pick, number, numbers, bottom, order):
    """The index of the first best move, or the one picked if it is as good."""
    best, top, scale = pick, number, 1
    for index, move in enumerate(line):
        mean = mean_behind(move, numbers, bottom)
        if (mean * scale - top * move[0]) * order > 0:
            best, top, scale = index, mean, move[0]
    return best


def leading_picks(lines):
    """For each state the index of the first move that leads on a shortest way to a gain; 0 where there is none."""
    picks = [0] * len(lines)
    ranked = {}
    found = _found_next(lines, ranked)
    while found:
        for at, index in found:
            ranked[at] = True
            picks[at] = index
        found = _found_next(lines, ranked)
    return picks


def _found_next(lines, ranked):
    found = []
    for at, line in enumerate(lines):
        indexes = [] if at in ranked else [index for index, move in enumerate(line) if _leads(move, ranked)]
        if indexes:
            found.append((at, indexes[0]))
    return found


def _leads(move, ranked):
    return move[1] > 0 or any([step in ranked for step, _ in move[2]])

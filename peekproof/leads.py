"""How far the chance of one watch to be lit can be ahead of that of another one, whenever one looks."""

from peekproof.beside import OpenPairs, UndecidedPairs, refuse_bad_crowds
from peekproof.greatest import greatest
from peekproof.moves import ranks_to, worth_moves
from peekproof.outlays import leads_out
from peekproof.papers import Paper
from peekproof.ratios import Ratio
from peekproof.solving import best_world, leading_picks
from peekproof.studies import Study
from peekproof.watches import Watch, refuse_unlike_watches

_MOST_PAIRS = 40
# The ends of a study of pairs: the difference there is -1, 0 or 1.
_ENDS = ("behind", "dark", "lit")


class Lead(Paper):
    """The greatest mean of the difference, with a line for each open pair."""

    def __init__(self, number, lines):
        super().__init__("lead", number, lines)
        self.number = self.parts[0]
        self.lines = self.parts[1]


class Ahead(Paper):
    """The greatest chance that one is lit ahead of other, with a line for each undecided pair."""

    def __init__(self, number, lines):
        super().__init__("ahead", number, lines)
        self.number = self.parts[0]
        self.lines = self.parts[1]


def lead(one, other, crowds):
    """A Lead: the greatest mean of the difference, over all worlds and all ways to look once."""
    refuse_unlike_watches(one, other)
    refuse_bad_crowds(one, other, crowds)
    beside = OpenPairs(one, other, crowds)
    pairs = list(beside.met(_MOST_PAIRS))
    # All that is gained is 1 more than the difference, so that none of it is below 0.
    moves = worth_moves(_study_of(beside, pairs), {end: Ratio(at) for at, end in enumerate(_ENDS)})
    looks = [(1, (1 + beside.gap(pair)) * moves.bottom, []) for pair in pairs]
    lines = [[*line, look] for line, look in zip(moves.lines, looks)]
    picks, numbers, bottom = best_world(lines, leading_picks(lines), 1)
    worths = [Ratio(number, bottom * moves.bottom) - 1 for number in numbers]
    kept = [None if worth == beside.gap(pair) else pick for pair, worth, pick in zip(pairs, worths, picks)]
    ranks = _ranks_of([look if pick is None else line[pick] for line, pick, look in zip(lines, kept, looks)], kept)
    return Lead(worths[0], [(pair[0], pair[1], worth, pick, ranks.get(at, 0))
                            for at, (pair, worth, pick) in enumerate(zip(pairs, worths, kept))])


def ahead(one, other, crowds):
    """An Ahead: the greatest chance that one is lit at some moment by which other is not."""
    refuse_unlike_watches(one, other)
    refuse_bad_crowds(one, other, crowds)
    beside = UndecidedPairs(one, other, crowds)
    pairs = list(beside.met(_MOST_PAIRS))
    study = _study_of(beside, pairs)
    paper = greatest(study)
    table, corners, ranks = dict(paper.table), dict(paper.corners), dict(paper.ranks)
    return Ahead(paper.number, [(pair[0], pair[1], table[state], corners[state] if state in ranks else None,
                                 ranks.get(state, 0)) for state, pair in zip(study.states, pairs)])


def _study_of(beside, pairs):
    """The study whose states are the pairs, as met; its ends tell the difference at the other ones."""
    labels = {pair: f"s{at}" for at, pair in enumerate(pairs)}
    lines = [(labels[pair], beside.arm_at(pair), [_place_of(beside, labels, beside.moved(pair, sign))
                                                  for sign in beside.one.signs_of(pair[0])]) for pair in pairs]
    crowds = {beside.arm_at(pair): beside.crowds[beside.arm_at(pair)] for pair in pairs}
    watch = Watch({arm: crowd.signs for arm, crowd in crowds.items()}, _ENDS, lines)
    return Study(watch, crowds)


def _place_of(beside, labels, pair):
    # A pair that goes on, but was not met, stands behind a sign without a chance: there any place is right.
    return labels[pair] if pair in labels else _ENDS[beside.gap(pair) + 1]


def _ranks_of(chosen, kept):
    """Ranks of the pairs with a kept corner: by these moves 1 leads at once to a pair without one, or out of all."""
    return ranks_to([at for at, move in enumerate(chosen) if kept[at] is not None
                     and (leads_out(move) or any([kept[step] is None for step, _ in move[2]]))], chosen)

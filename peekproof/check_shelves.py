"""Whether papers about ladders and shelves are right: by comparing numbers and handing on the papers in them."""

from peekproof.check_counted import shows_dearest
from peekproof.check_solved import shows_greatest, shows_least
from peekproof.checks import is_one_of
from peekproof.costs import Costs
from peekproof.dearest import Dearest
from peekproof.greatest import Greatest
from peekproof.ladders import NoRung, Rung, refuse_bad_fit
from peekproof.least import Least
from peekproof.ratios import Ratio
from peekproof.shelves import Choice, Chosen, Dull, Long, Loud, NoChoice, refuse_bad_choice
from peekproof.showing import table_over


def shows_rung(ladder, level, value):
    """Whether value is a Rung with the first one that fits, or a NoRung where none does."""
    told = refuse_bad_fit(ladder, level)
    studies = [study for _, study in ladder.rungs]
    if isinstance(value, NoRung):
        return _is_calm(studies[-1], value.held) and _is_above(value.held, told)
    if not isinstance(value, Rung) or value.name not in ladder:
        return False
    place = [name for name, _ in ladder.rungs].index(value.name)
    if not _is_calm(studies[place], value.held) or _is_above(value.held, told):
        return False
    if place == 0:
        return value.ahead is None
    return _is_calm(studies[place - 1], value.ahead) and _is_above(value.ahead, told)


def shows_choice(shelf, level, value):
    """Whether value is a Choice of the most telling slot that fits, or a NoChoice where none does."""
    told = refuse_bad_choice(shelf, level)
    names = [slot.name for slot in shelf.slots]
    if not isinstance(value, (Choice, NoChoice)):
        return False
    bars = table_over(value.bars, names)
    if bars is None:
        return False
    if isinstance(value, NoChoice):
        return all([_is_loud(slot, bars[slot.name], told) for slot in shelf.slots])
    if not is_one_of(value.name, names) or not all([slot.real.is_sure for slot in shelf.slots]):
        return False
    chosen = names.index(value.name)
    if not _is_chosen(shelf.slots[chosen], bars[value.name], told):
        return False
    return all([_is_passed(slot, bars[slot.name], told, bars[value.name], at > chosen)
                for at, slot in enumerate(shelf.slots) if at != chosen])


def _is_chosen(slot, bar, level):
    if not isinstance(bar, Chosen) or not _is_calm(slot.quiet, bar.calm) or _is_above(bar.calm, level):
        return False
    return _is_power(slot, bar.power) and _is_length(slot, bar.length)


def _is_passed(slot, bar, level, chosen, is_behind):
    """Whether the bar shows why this slot, which stands behind the chosen one or ahead of it, was not chosen."""
    if isinstance(bar, Loud):
        return _is_loud(slot, bar, level)
    if isinstance(bar, Dull):
        return _is_power(slot, bar.power) and _compared(bar.power, chosen.power) < 0
    if not isinstance(bar, Long) or not _is_power(slot, bar.power) or _compared(bar.power, chosen.power) != 0:
        return False
    return _is_length(slot, bar.length) and _compared(bar.length, chosen.length) >= (0 if is_behind else 1)


def _is_loud(slot, bar, level):
    return isinstance(bar, Loud) and _is_calm(slot.quiet, bar.calm) and _is_above(bar.calm, level)


def _is_calm(study, paper):
    return isinstance(paper, Greatest) and shows_greatest(study, paper)


def _is_power(slot, paper):
    return isinstance(paper, Least) and shows_least(slot.real, paper)


def _is_length(slot, paper):
    return isinstance(paper, Dearest) and shows_dearest(slot.real, Costs.each_trial(slot.real.watch), paper)


def _is_above(paper, level):
    return level.is_below(paper.number)


def _compared(one, other):
    """-1, 0 or 1, as the number of the first paper is less than that of the other one, equal to it or greater."""
    return Ratio.of(one.number).compared(other.number)

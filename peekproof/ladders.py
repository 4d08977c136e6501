"""Ladders: studies each of which is lit only where the one ahead of it is."""

from peekproof.checks import is_listed, is_name, is_one_of
from peekproof.errors import BadShelf, NoStudy, NotWithin, TooMany
from peekproof.greatest import greatest
from peekproof.labels import refuse_twice
from peekproof.moves import refuse_too_many_states
from peekproof.papers import Denial, Paper
from peekproof.ratios import as_chance
from peekproof.studies import Study
from peekproof.within import within


class Ladder:
    """A ladder of these rungs, each a name and a study."""

    MOST = 12

    def __init__(self, rungs):
        if not is_listed(rungs) or not rungs or not all([_is_rung(rung) for rung in rungs]):
            raise BadShelf("rungs")
        refuse_twice([name for name, _ in rungs], ())
        studies = [study for _, study in rungs]
        crowds = _crowds_of(studies)
        if len(rungs) > Ladder.MOST:
            raise TooMany("rungs", Ladder.MOST)
        for at in range(1, len(rungs)):
            _refuse_not_within(rungs[at][0], studies[at], studies[at - 1], crowds)
        self.rungs = tuple([(name, study) for name, study in rungs])
        self._studies = {name: study for name, study in rungs}

    def __len__(self):
        return len(self.rungs)

    def __iter__(self):
        return iter(self._studies)

    def __contains__(self, value):
        return is_one_of(value, self._studies)

    def study_of(self, name):
        """The study of the rung with this name."""
        if name not in self:
            raise NoStudy(name)
        return self._studies[name]

    def numbers(self):
        """The greatest chance that each rung's study is lit, in order."""
        return tuple([greatest(study).number for _, study in self.rungs])

    def __eq__(self, other):
        return isinstance(other, Ladder) and self.rungs == other.rungs


class Rung(Paper):
    """The first rung that fits, with a Greatest of its study, and of the one ahead."""

    def __init__(self, name, held, ahead):
        super().__init__("rung", name, held, ahead)
        self.name = self.parts[0]
        self.held = self.parts[1]
        self.ahead = self.parts[2]


class NoRung(Denial):
    """No rung fits, as a Greatest of the last one's study shows."""

    def __init__(self, held):
        super().__init__("norung", held)
        self.held = self.parts[0]


def first_fit(ladder, level):
    """A Rung with the first rung that fits the level; a NoRung if none does."""
    told = refuse_bad_fit(ladder, level)
    for _, study in ladder.rungs:
        refuse_too_many_states(study)
    ahead = None
    for name, study in ladder.rungs:
        held = greatest(study)
        if held.number.compared(told) <= 0:
            return Rung(name, held, ahead)
        ahead = held
    return NoRung(ahead)


def refuse_bad_fit(ladder, level):
    """The Ratio of the level; refuses what is no ladder, and what is no level."""
    if not isinstance(ladder, Ladder):
        raise BadShelf("ladder")
    return told_level(level)


def told_level(level):
    """The Ratio of the level; refuses what is none."""
    told = as_chance(level)
    if told is None:
        raise BadShelf("level")
    return told


def _is_rung(rung):
    return is_listed(rung) and len(rung) == 2 and is_name(rung[0]) and isinstance(rung[1], Study)


def _crowds_of(studies):
    """The dict of the crowds of all arms; refuses arms of several studies with crowds that are not equal."""
    crowds = {}
    for study in studies:
        for arm, crowd in study.crowds:
            if crowds.get(arm, crowd) != crowd:
                raise BadShelf("crowds")
            crowds[arm] = crowd
    return crowds


def _refuse_not_within(name, study, ahead, crowds):
    """Refuses a study that is not within the one ahead of it."""
    arms = [arm for watch in (study.watch, ahead.watch) for arm, _ in watch.arms]
    shown = within(study.watch, ahead.watch, {arm: crowds[arm] for arm in arms})
    if not shown:
        raise NotWithin(name, shown.row)

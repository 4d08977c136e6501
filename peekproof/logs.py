"""Logs: rows of a study's watch that grow; and the study of a row."""

from peekproof.checks import is_one_of
from peekproof.errors import BadLog, NoSign, Nothing, Over, TooMany
from peekproof.moves import refuse_no_study
from peekproof.standings import DARK, LIT
from peekproof.studies import Study
from peekproof.tracks import best_corner, chance_of_row, crowd_at, states_along
from peekproof.watches import Watch

_MOST_SIGNS = 200


class Log:
    """A row of the study's watch that grows."""

    def __init__(self, study, *signs):
        refuse_no_study(study)
        self.study = study
        self.seen = ()
        self.now = study.watch.first
        self.kept = ()
        for sign in signs:
            self.add(sign)

    def add(self, sign):
        """Puts the sign behind the others."""
        watch = self.study.watch
        if self.now not in watch:
            raise Over(self.now)
        if not is_one_of(sign, watch.signs_of(self.now)):
            raise NoSign(sign)
        self.kept = (*self.kept, best_corner(self.study, self.now, sign))
        self.now = watch.place(self.now, sign)
        self.seen = (*self.seen, sign)

    def back(self):
        """Takes the last sign away."""
        if not self.seen:
            raise Nothing()
        self.seen = self.seen[:-1]
        self.kept = self.kept[:-1]
        self.now = self.study.watch.after(self.seen)

    @property
    def chance(self):
        """The chance of the row."""
        return chance_of_row(self.study, self.seen)

    def __len__(self):
        return len(self.seen)

    def __iter__(self):
        return iter(self.seen)


def row_study(study, row):
    """The study of a row."""
    refuse_no_study(study)
    study.watch.after(row)
    if not row:
        raise BadLog("row")
    if len(row) > _MOST_SIGNS:
        raise TooMany("row", _MOST_SIGNS)
    states = states_along(study.watch, row)
    lines = []
    for at, (state, sign) in enumerate(zip(states, row)):
        place = LIT if at + 1 == len(row) else f"r{at + 1}"
        lines.append((f"r{at}", study.watch.arm_of(state),
                      [place if other == sign else DARK for other in study.watch.signs_of(state)]))
    crowds = {study.watch.arm_of(state): crowd_at(study, state) for state in states}
    watch = Watch({arm: crowd.signs for arm, crowd in crowds.items()}, (LIT, DARK), lines)
    return Study(watch, crowds)

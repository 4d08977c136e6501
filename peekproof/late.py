"""Studies some of whose signs are held, and told later or never."""

from peekproof.handling import Act, Handling, many_moved, moved_corners
from peekproof.labels import dotted
from peekproof.moves import refuse_no_study
from peekproof.pockets import Handled, refuse_bad_budget, refuse_unlike_signs_of_arms


class Delaying(Handling):
    """The world may hold a drawn sign, or tell a held one in the place of a draw; all arms have the same signs."""

    def __init__(self, plain, most):
        self.signs = plain.watch.arms[0][1]
        super().__init__(plain, most, [(most - spent, self._held_by(row)) for spent in range(most + 1)
                                       for row in _rows_of_indexes(len(self.signs), spent)])

    def state_label(self, state, pocket):
        """The label of the state with this pocket."""
        return dotted(state, self._name_of(pocket))

    def arm_label(self, arm, pocket):
        """The label of the arm with this pocket."""
        return dotted(arm, self._name_of(pocket))

    def acts_of(self, arm, pocket):
        """Each sign told; then, if something is left, each sign held; then each held sign, once, told late."""
        left, held = pocket
        told = super().acts_of(arm, pocket)
        kept = [Act(dotted(sign, "held"), sign, (), (left - 1, self._changed(held, sign, 1))) for sign in self.signs]
        late = [Act(dotted(sign, "late"), None, (sign,), (left, self._changed(held, sign, -1)))
                for sign in self.signs if sign in held]
        return [*told, *kept, *late] if left else [*told, *late]

    def many_corners(self, arm, pocket):
        """How many corners there are over the signs of these acts."""
        corners = self.crowds[arm].corners
        drawn = many_moved(corners) if pocket[0] else len(corners)
        return drawn + len(set(pocket[1]))

    def corners_made(self, arm, pocket):
        """These corners: signs are moved to the held ones, if something is left; then each late sign is sure."""
        corners = self.crowds[arm].corners
        drawn = moved_corners(corners) if pocket[0] else corners
        width, more = len(drawn[0]), len(set(pocket[1]))
        late = [[int(at == width + index) for at in range(width + more)] for index in range(more)]
        return [*[[*corner, *[0] * more] for corner in drawn], *late]

    def _held_by(self, row):
        return tuple([self.signs[at] for at in row])

    def _changed(self, held, sign, change):
        """The signs held, in order, with one more or one less of this one."""
        return tuple([other for other in self.signs
                      for _ in range(held.count(other) + (change if other == sign else 0))])

    def _name_of(self, pocket):
        left, held = pocket
        places = [str(at) for other in held for at, sign in enumerate(self.signs) if sign == other]
        return "".join([f"k{left}b", *places])


class Late(Handled):
    """The study of which at most so many signs are held, to be told later or never."""

    def __init__(self, study, most=1):
        refuse_no_study(study)
        refuse_bad_budget(most)
        refuse_unlike_signs_of_arms(study.watch)
        super().__init__(Delaying(study, most))


def _rows_of_indexes(many, most):
    """The rows of at most so many indexes, each one ascending: shorter ones first, those of one length in order."""
    rows = [()]
    longest = [()]
    for _ in range(most):
        longest = [(*row, at) for row in longest for at in range(row[-1] if row else 0, many)]
        rows = [*rows, *longest]
    return rows

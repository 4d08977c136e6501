"""The least mean wait for an end, where some world has one."""

from peekproof.greatest import greatest
from peekproof.moves import refuse_too_many_states
from peekproof.papers import Denial, Paper, told_at
from peekproof.ratios import Ratio
from peekproof.solving import best_world
from peekproof.waits import Waits, refuse_no_end, worths_of_end


class Soonest(Paper):
    """The least mean wait, with the means, the kept corners and the purse that show it."""

    def __init__(self, number, means, corners, purse):
        super().__init__("soonest", number, means, corners, purse)
        self.number = self.parts[0]
        self.means = self.parts[1]
        self.corners = self.parts[2]
        self.purse = self.parts[3]

    def at(self, state):
        """The mean of the state."""
        return told_at(self.means, state)


class Seldom(Denial):
    """A purse that is below 1 at the first state: no world comes to the end for sure."""

    def __init__(self, purse):
        super().__init__("seldom", purse)
        self.purse = self.parts[0]


def soonest(study, end="lit"):
    """A Soonest with the least means and the least purse; a Seldom with this purse if no world has a mean wait."""
    refuse_no_end(study, end)
    refuse_too_many_states(study)
    paper = greatest(study, worths_of_end(study, end))
    purse = {state: paper.at(state) for state in study.states}
    if paper.number != 1:
        return Seldom(purse)
    # The world that comes to the end for sure has a mean wait: each better one has one, too.
    waits = Waits(study, end, purse, {state: index for state, index in paper.corners})
    picks, numbers, bottom = best_world(waits.lines, [0] * len(study), -1)
    means = {state: Ratio(number, bottom) for state, number in zip(study.states, numbers) if state in waits.stays}
    corners = {state: waits.stays[state][pick] for state, pick in zip(study.states, picks) if state in waits.stays}
    return Soonest(means[study.watch.first], means, corners, purse)

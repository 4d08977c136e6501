"""Studies: a watch with a crowd for each of its arms."""

from peekproof.checks import is_one_of, is_within
from peekproof.crowds import Crowd
from peekproof.errors import BadCrowd, BadNumbers, BadStudy, BadText, NoArm, NoState, TooMany
from peekproof.ranking import sure_ranks
from peekproof.standings import met_from
from peekproof.watches import Watch


class Study:
    """A study of this watch with these crowds for its arms."""

    MOST = 40

    def __init__(self, watch, crowds):
        if not isinstance(watch, Watch):
            raise BadStudy("watch")
        if not _are_crowds_of(watch, crowds):
            raise BadStudy("crowds")
        if not all([crowds[arm].signs == signs for arm, signs in watch.arms]):
            raise BadStudy("signs")
        self.watch = watch
        self.crowds = tuple([(arm, crowds[arm]) for arm, _ in watch.arms])
        self._crowd_of_arm = {arm: crowd for arm, crowd in self.crowds}
        ways = {state: _possible_places(watch, state, crowds[watch.arm_of(state)]) for state in watch.states}
        self.states, self.ends = met_from(watch.first, ways)
        self._come_about = {state: True for state in self.states}

    @property
    def is_sure(self):
        """Whether it comes to an end in each world that goes on."""
        return len(sure_ranks(self)) == len(self.states)

    def arm_of(self, state):
        """The arm that the state asks."""
        self._refuse_no_state(state)
        return self.watch.arm_of(state)

    def crowd_of(self, state):
        """The crowd of this arm."""
        self._refuse_no_state(state)
        return self._crowd_of_arm[self.watch.arm_of(state)]

    def corners_of(self, state):
        """The corners of this crowd."""
        return self.crowd_of(state).corners

    def possible_of(self, state):
        """The signs that are possible there, in order."""
        return self.crowd_of(state).possible()

    def place(self, state, sign):
        """The place behind a sign, possible or not."""
        self._refuse_no_state(state)
        return self.watch.place(state, sign)

    def with_crowd(self, arm, crowd):
        """The study with this crowd for this arm."""
        if not isinstance(crowd, Crowd):
            raise BadCrowd("crowd")
        if not is_one_of(arm, self._crowd_of_arm):
            raise NoArm(arm)
        return Study(self.watch, {**self._crowd_of_arm, arm: crowd})

    def rows(self, many):
        """Yields all possible rows with so many signs, or with fewer that come to an end."""
        if not is_within(many, 0, None):
            raise BadNumbers("many")
        if many > 12:
            raise TooMany("many", 12)
        waiting = [((), self.watch.first)]
        while waiting:
            row, place = waiting.pop()
            if len(row) == many or place not in self:
                yield row
            else:
                for sign in reversed(list(self.possible_of(place))):
                    waiting.append(((*row, sign), self.watch.place(place, sign)))

    def __len__(self):
        return len(self.states)

    def __iter__(self):
        return iter(self.states)

    def __contains__(self, value):
        return is_one_of(value, self._come_about)

    def __eq__(self, other):
        if not isinstance(other, Study) or self.watch != other.watch:
            return False
        return all([crowd.corners == other_crowd.corners
                    for (_, crowd), (_, other_crowd) in zip(self.crowds, other.crowds)])

    def __str__(self):
        return " | ".join([str(self.watch), *[f"{arm} {crowd}" for arm, crowd in self.crowds]])

    @classmethod
    def read(cls, text):
        """The study with this text."""
        if not isinstance(text, str):
            raise BadText(0, 0)
        words = text.split(" ")
        marks = [at for at, word in enumerate(words) if word == "|"]
        stops = [*marks, len(words)]
        watch = Watch.read(" ".join(words[:stops[0]]))
        crowds = {}
        for at, (arm, signs) in enumerate(watch.arms):
            if at == len(marks):
                raise BadText(0, len(words))
            crowds[arm] = _read_crowd(words, marks[at] + 1, stops[at + 1], arm, signs)
        if len(marks) > len(crowds):
            raise BadText(0, marks[len(crowds)])
        return Study(watch, crowds)

    def _refuse_no_state(self, state):
        if not is_one_of(state, self._come_about):
            raise NoState(state)


def _are_crowds_of(watch, crowds):
    if not isinstance(crowds, dict) or len(crowds) != len(watch.arms):
        return False
    return all([isinstance(crowds.get(arm), Crowd) for arm, _ in watch.arms])


def _possible_places(watch, state, crowd):
    return [watch.place(state, sign) for sign in crowd.possible()]


def _read_crowd(words, start, stop, arm, signs):
    """The crowd of this arm; its words, behind the arm, go up to the word at stop."""
    if words[start:stop][:1] != [arm]:
        raise BadText(0, start)
    try:
        crowd = Crowd.read(" ".join(words[start + 1:stop]))
    except BadText as refused:
        raise BadText(0, start + 1 + refused.word)
    if crowd.signs != signs:
        raise BadText(0, stop)
    return crowd

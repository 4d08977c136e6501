"""How the states of inner studies stand in the place of the states that ask for them."""

from peekproof.errors import TooMany
from peekproof.labels import dotted, refuse_long_labels, refuse_twice
from peekproof.studies import Study
from peekproof.watches import Watch

_MOST_ARMS = 40


class Flattening:
    """The states of a flattened study, and what they stand for.

    The attribute stands tells for each state, in order, the pair of a state of the study and of the state of the
    inner study that runs there, None where its arm is not named.
    """

    def __init__(self, study, inners):
        self.study = study
        self.inners = inners
        pairs = [(state, inner) for state in study.watch.states for inner in self.run_at(state)]
        labels = [_label_of(pair) for pair in pairs]
        arms = {self.arm_behind(state, inner): True for state, inner in pairs}
        arm_labels = [_label_of(pair) for pair in arms]
        refuse_long_labels([*labels, *arm_labels])
        refuse_twice(labels, study.watch.ends)
        refuse_twice(arm_labels, ())
        if len(labels) > Watch.MOST:
            raise TooMany("states", Watch.MOST)
        if len(arms) > _MOST_ARMS:
            raise TooMany("arms", _MOST_ARMS)
        self.stands = {label: pair for label, pair in zip(labels, pairs)}
        self.arms = list(arms)

    def outer_sign(self, label, sign):
        """The sign of the study that this sign shows at the state with this label, None if it shows none."""
        state, inner = self.stands[label]
        if inner is None:
            return sign
        watch = self.inner_at(state).watch
        place = watch.place(inner, sign)
        return None if place in watch else place

    def flat_study(self):
        """The flattened study."""
        crowds = {arm: crowd for arm, crowd in self._crowds()}
        arms = {arm: crowd.signs for arm, crowd in crowds.items()}
        lines = [(label, _label_of(self.arm_behind(state, inner)), self._places_behind(state, inner))
                 for label, (state, inner) in self.stands.items()]
        return Study(Watch(arms, self.study.watch.ends, lines), crowds)

    def inner_at(self, state):
        """The inner study that runs at this state of the study, None if its arm is not named."""
        return self.inners.get(self.study.watch.arm_of(state))

    def run_at(self, state):
        """The states of the inner study that runs there, None alone if its arm is not named."""
        inner = self.inner_at(state)
        return (None,) if inner is None else inner.watch.states

    def arm_behind(self, state, inner):
        """The pair of the arm of the study and of the one that the inner state asks, None where there is none."""
        arm = self.study.watch.arm_of(state)
        return (arm, None) if inner is None else (arm, self.inners[arm].watch.arm_of(inner))

    def _crowds(self):
        crowds = {arm: crowd for arm, crowd in self.study.crowds}
        inside = {(arm, label): crowd for arm, inner in self.inners.items() for label, crowd in inner.crowds}
        return [(_label_of(pair), inside.get(pair, crowds[pair[0]])) for pair in self.arms]

    def _places_behind(self, state, inner):
        """Where the signs lead from the state that stands for this pair."""
        if inner is None:
            return [self._flat_place(place) for place in self.study.watch.places_of(state)]
        watch = self.inner_at(state).watch
        return [_label_of((state, place)) if place in watch else self._flat_place(self.study.watch.place(state, place))
                for place in watch.places_of(inner)]

    def _flat_place(self, place):
        """The place of the flattened watch for one of the study's watch."""
        return _label_of((place, self.run_at(place)[0])) if place in self.study.watch else place


def _label_of(pair):
    label, inner = pair
    return label if inner is None else dotted(label, inner)

"""Two watches beside one another: the pairs of their places to which the signs lead that count."""

from peekproof.crowds import Crowd
from peekproof.errors import BadStudy, TooMany, UnlikeArms
from peekproof.standings import LIT


class OpenPairs:
    """The pairs of two watches with a state of one; crowds is a dict by their arms, None if all signs count."""

    def __init__(self, one, other, crowds):
        self.one = one
        self.other = other
        self.crowds = crowds
        self.start = (one.first, other.first)

    def goes_on(self, pair):
        """Whether the pair is one of these."""
        return pair[0] in self.one

    def gap(self, pair):
        """1 if only the place of one is lit, -1 if only that of other is, otherwise 0."""
        return int(pair[0] == LIT) - int(pair[1] == LIT)

    def arm_at(self, pair):
        """The arm that the state of one asks."""
        return self.one.arm_of(pair[0])

    def asks_two(self, pair):
        """Whether the states of the pair ask two arms."""
        return pair[1] in self.other and self.other.arm_of(pair[1]) != self.arm_at(pair)

    def counts(self, pair, sign):
        """Whether any value is a sign that counts at the pair."""
        if self.crowds is not None:
            return sign in self.crowds[self.arm_at(pair)]
        return isinstance(sign, str) and sign in self.one.signs_of(pair[0])

    def counting(self, pair):
        """The signs that count at the pair, in order."""
        return [sign for sign in self.one.signs_of(pair[0]) if self.counts(pair, sign)]

    def moved(self, pair, sign):
        """The pair to which the sign leads; what has ended stays."""
        here, there = pair
        return self.one.place(here, sign), self.other.place(there, sign) if there in self.other else there

    def met(self, most):
        """A dict from the pairs, as met, to how each is come to: a pair and a sign, None for the first pair.

        Of a pair met first two arms are refused, then one more pair than most; None is no bound.
        """
        pairs = [self.start]
        ways = {self.start: None}
        self._refuse(self.start, 1, most)
        at = 0
        while at < len(pairs):
            ahead = pairs[at]
            for sign in self.counting(ahead):
                pair = self.moved(ahead, sign)
                if self.goes_on(pair) and pair not in ways:
                    self._refuse(pair, len(pairs) + 1, most)
                    ways[pair] = (ahead, sign)
                    pairs.append(pair)
            at += 1
        return ways

    def _refuse(self, pair, many, most):
        if self.asks_two(pair):
            raise UnlikeArms(pair[0], pair[1])
        if most is not None and many > most:
            raise TooMany("pairs", most)


class UndecidedPairs(OpenPairs):
    """The open pairs at which other is not lit."""

    def goes_on(self, pair):
        """Whether the pair is one of these."""
        return super().goes_on(pair) and pair[1] != LIT


def refuse_bad_crowds(one, other, crowds):
    """Refuses what is no dict from just the arms of both to Crowds over the signs of these arms."""
    arms = {arm: signs for arm, signs in [*one.arms, *other.arms]}
    if not isinstance(crowds, dict) or len(crowds) != len(arms):
        raise BadStudy("crowds")
    if not all([isinstance(crowds.get(arm), Crowd) for arm in arms]):
        raise BadStudy("crowds")
    if not all([crowds[arm].signs == signs for arm, signs in arms.items()]):
        raise BadStudy("signs")

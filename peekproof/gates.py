"""Gates: names in the order of the fears that they let pass."""

from peekproof.checks import is_listed, is_name
from peekproof.errors import BadNumbers, BadRatio, TooMany
from peekproof.labels import refuse_twice
from peekproof.ratios import Ratio, as_chance, as_ratio, least_of
from peekproof.words import Words


class Gates:
    """Gates of these pairs, each a name and a ratio above the one ahead."""

    MOST = 20

    def __init__(self, *pairs):
        if not pairs or not all([_is_gate(pair) for pair in pairs]):
            raise BadNumbers("pairs")
        told = tuple([(name, Ratio.of(ratio)) for name, ratio in pairs])
        ratios = [Ratio(0), *[ratio for _, ratio in told]]
        if not all([here.is_below(there) for here, there in zip(ratios, ratios[1:])]):
            raise BadNumbers("pairs")
        refuse_twice([name for name, _ in told], ())
        if len(told) > Gates.MOST:
            raise TooMany("pairs", Gates.MOST)
        self.pairs = told

    def __len__(self):
        return len(self.pairs)

    def __iter__(self):
        return iter(self.pairs)

    def __eq__(self, other):
        return isinstance(other, Gates) and self.pairs == other.pairs

    def at(self, fear):
        """The name of the first gate that the fear does not pass; None if it passes all."""
        told = _told_fear(fear)
        for name, ratio in self.pairs:
            if not ratio.is_below(told):
                return name
        return None

    def bounds(self, fear):
        """For each gate the pair of its name and a bound on the chance that its ratio is ever come to."""
        told = _told_fear(fear)
        return tuple([(name, least_of([Ratio(1), told.over(ratio)])) for name, ratio in self.pairs])

    def __str__(self):
        return " ".join([f"{name} {ratio}" for name, ratio in self.pairs])

    @staticmethod
    def read(text):
        """The gates with this text."""
        words = Words(text)
        names = []
        ratios = [Ratio(0)]
        while not names or words.word_ahead() is not None:
            if len(names) == Gates.MOST:
                words.refuse()
            names.append(words.take_name(names))
            ratios.append(words.take_above(ratios[-1]))
        pairs = [(name, ratio) for name, ratio in zip(names, ratios[1:])]
        return Gates(*pairs)


def _is_gate(pair):
    return is_listed(pair) and len(pair) == 2 and is_name(pair[0]) and as_ratio(pair[1]) is not None


def _told_fear(fear):
    told = as_chance(fear)
    if told is None:
        raise BadRatio("fear")
    return told

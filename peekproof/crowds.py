"""Crowds: the chances that somebody may pick for each trial."""

from peekproof.checks import are_labels, is_listed, is_one_of
from peekproof.errors import BadCrowd, BadNumbers, BadTable, NoSign, TooMany
from peekproof.mixtures import needed_of
from peekproof.ratios import Ratio, as_chance, as_ratios, as_shares, greatest_of, least_of, mean_of
from peekproof.tables import Table, behind_table, text_of_part
from peekproof.words import read_parts


class Crowd:
    """A crowd with these signs and corners."""

    MOST_SIGNS = 12
    MOST_CORNERS = 96

    def __init__(self, signs, corners):
        if not are_labels(signs, 1, Crowd.MOST_SIGNS):
            raise BadCrowd("signs")
        told = _corners_of(corners, len(signs))
        if told is None:
            raise BadCrowd("corners")
        if len(told) > Crowd.MOST_CORNERS:
            raise TooMany("corners", Crowd.MOST_CORNERS)
        self.signs = tuple(signs)
        self.corners = told
        self._possible = _possible_signs(self.signs, told)
        self._needed = None

    @property
    def needed(self):
        """The indexes of the needed corners, ascending."""
        if self._needed is None:
            self._needed = needed_of(self.corners)
        return self._needed

    def __len__(self):
        return len(self.corners)

    def __iter__(self):
        return iter(self.corners)

    def __contains__(self, value):
        return is_one_of(value, self._possible)

    def possible(self):
        """The signs that have a chance above 0 at some corner, in order."""
        return self._possible

    def span(self, sign):
        """The least and the greatest chance of the sign at a corner."""
        if not is_one_of(sign, self.signs):
            raise NoSign(sign)
        at = self.signs.index(sign)
        chances = [corner[at] for corner in self.corners]
        return least_of(chances), greatest_of(chances)

    def greatest_mean(self, numbers):
        """The greatest mean of the numbers at a corner, and the index of the first such corner."""
        means = self._means(numbers)
        greatest = greatest_of(means)
        return greatest, means.index(greatest)

    def least_mean(self, numbers):
        """The least mean of the numbers at a corner, and the index of the first such corner."""
        means = self._means(numbers)
        least = least_of(means)
        return least, means.index(least)

    def _means(self, numbers):
        told = as_ratios(numbers)
        if told is None or len(told) != len(self.signs):
            raise BadNumbers("numbers")
        return [mean_of(corner, told) for corner in self.corners]

    def mixture(self, weights):
        """The mixture that these weights make of the corners."""
        told = as_shares(weights, len(self.corners))
        if told is None:
            raise BadNumbers("weights")
        return tuple([mean_of([corner[at] for corner in self.corners], told) for at in range(len(self.signs))])

    def lean(self):
        """The crowd with the needed corners alone."""
        return Crowd(self.signs, [self.corners[at] for at in self.needed])

    def __or__(self, other):
        if not isinstance(other, Crowd):
            raise BadCrowd("other")
        if other.signs != self.signs:
            raise BadCrowd("fit")
        return Crowd(self.signs, self.corners + other.corners)

    def __mul__(self, other):
        if not isinstance(other, Table):
            raise BadTable("other")
        if other.sources != self.signs:
            raise BadTable("fit")
        return Crowd(other.targets, [behind_table(corner, other) for corner in self.corners])

    def __eq__(self, other):
        if not isinstance(other, Crowd):
            return False
        if self.signs != other.signs:
            return False
        return self.corners == other.corners or _needed_numbers(self) == _needed_numbers(other)

    @staticmethod
    def all_sure(signs):
        """The crowd that has, for each sign, a corner at which it is sure."""
        if not are_labels(signs, 1, Crowd.MOST_SIGNS):
            raise BadCrowd("signs")
        return Crowd(signs, [[int(one == other) for other in signs] for one in signs])

    @staticmethod
    def just(signs, chances):
        """The crowd with these chances alone."""
        if not are_labels(signs, 1, Crowd.MOST_SIGNS):
            raise BadCrowd("signs")
        told = as_shares(chances, len(signs))
        if told is None:
            raise BadCrowd("chances")
        return Crowd(signs, [told])

    @staticmethod
    def between(signs, low, high):
        """The crowd of two signs whose first one has a chance from low to high."""
        if not are_labels(signs, 2, 2):
            raise BadCrowd("signs")
        least, most = as_chance(low), as_chance(high)
        if least is None:
            raise BadCrowd("low")
        if most is None or most.is_below(least):
            raise BadCrowd("high")
        ends = [least] if least == most else [least, most]
        return Crowd(signs, [[end, Ratio(1) - end] for end in ends])

    def __str__(self):
        return " / ".join([text_of_part(self.signs, corner) for corner in self.corners])

    @classmethod
    def read(cls, text):
        """The crowd with this text."""
        _, signs, corners = read_parts(text, "/", cls.MOST_CORNERS, cls.MOST_SIGNS, False)
        return cls(signs, corners)


def _corners_of(corners, many):
    if not is_listed(corners) or not corners:
        return None
    told = tuple([as_shares(corner, many) for corner in corners])
    return None if any([corner is None for corner in told]) else told


def _possible_signs(signs, corners):
    return tuple([sign for at, sign in enumerate(signs) if any([corner[at].top > 0 for corner in corners])])


def _needed_numbers(crowd):
    return sorted([[(chance.top, chance.bottom) for chance in crowd.corners[at]] for at in crowd.needed])

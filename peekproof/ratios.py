"""Exact fractions in lowest terms."""

from math import gcd, lcm

from peekproof.checks import is_integer, is_listed
from peekproof.errors import BadRatio, BadText

_DIGITS = "0123456789"


class Ratio:
    """The ratio top over bottom."""

    MOST_DIGITS = 60

    def __init__(self, top, bottom=1):
        if not is_integer(top):
            raise BadRatio("top")
        if not is_integer(bottom) or bottom == 0:
            raise BadRatio("bottom")
        shared = gcd(top, bottom)
        if bottom < 0:
            shared = -shared
        self.top = top // shared
        self.bottom = bottom // shared

    @property
    def sign(self):
        """-1, 0 or 1."""
        return (self.top > 0) - (self.top < 0)

    @property
    def is_whole(self):
        """Whether the bottom is 1."""
        return self.bottom == 1

    def __add__(self, other):
        told = _other_ratio(other)
        return Ratio(self.top * told.bottom + told.top * self.bottom, self.bottom * told.bottom)

    def __sub__(self, other):
        told = _other_ratio(other)
        return Ratio(self.top * told.bottom - told.top * self.bottom, self.bottom * told.bottom)

    def __mul__(self, other):
        told = _other_ratio(other)
        return Ratio(self.top * told.top, self.bottom * told.bottom)

    def over(self, other):
        """This ratio divided by the other one."""
        told = _other_ratio(other)
        if told.top == 0:
            raise BadRatio("zero")
        return Ratio(self.top * told.bottom, self.bottom * told.top)

    def compared(self, other):
        """-1, 0 or 1, as this ratio is less than the other one, equal to it or greater."""
        told = _other_ratio(other)
        here, there = self.top * told.bottom, told.top * self.bottom
        return (here > there) - (here < there)

    def is_below(self, other):
        """Whether this ratio is less than the other one."""
        return self.compared(other) < 0

    def __neg__(self):
        return Ratio(-self.top, self.bottom)

    def __abs__(self):
        return Ratio(abs(self.top), self.bottom)

    def __bool__(self):
        return bool(self.top != 0)

    def __eq__(self, other):
        if isinstance(other, Ratio):
            return self.top == other.top and self.bottom == other.bottom
        return is_integer(other) and self.bottom == 1 and self.top == other

    def __str__(self):
        if self.bottom == 1:
            return str(self.top)
        return f"{self.top}/{self.bottom}"

    def __repr__(self):
        return str(self)

    @staticmethod
    def read(text):
        """The ratio with this text."""
        if not isinstance(text, str):
            raise BadText(0, 0)
        words = text.split(" ")
        ratio = ratio_of_word(words[0])
        if ratio is None:
            raise BadText(0, 0)
        if len(words) > 1:
            raise BadText(0, 1)
        return ratio

    @staticmethod
    def of(value):
        """The Ratio of a Ratio or an integer."""
        ratio = as_ratio(value)
        if ratio is None:
            raise BadRatio("value")
        return ratio


def added(ratios):
    """The sum of the ratios."""
    total = Ratio(0)
    for ratio in _listed_ratios(ratios):
        total = total + ratio
    return total


def least_of(ratios):
    """The least one of the ratios."""
    return _furthest_of(ratios, -1)


def greatest_of(ratios):
    """The greatest one of the ratios."""
    return _furthest_of(ratios, 1)


def as_ratio(value):
    """The Ratio of a Ratio or an integer, None for any other value."""
    if isinstance(value, Ratio):
        return value
    return Ratio(value) if is_integer(value) else None


def as_chance(value):
    """The Ratio of a ratio from 0 to 1, None for any other value."""
    chance = as_ratio(value)
    return None if chance is None or chance.top < 0 or chance.top > chance.bottom else chance


def as_ratios(value):
    """The tuple of the Ratios that a list or a tuple of ratios tells, None for any other value."""
    if not is_listed(value):
        return None
    told = tuple([as_ratio(item) for item in value])
    return None if any([item is None for item in told]) else told


def as_amounts(value, many):
    """The tuple of so many Ratios from 0 on, None for any other value."""
    told = as_ratios(value)
    if told is None or len(told) != many or any([item.top < 0 for item in told]):
        return None
    return told


def as_shares(value, many):
    """The tuple of so many Ratios from 0 on that add up to 1, None for any other value."""
    told = as_amounts(value, many)
    return told if told is not None and added(told) == 1 else None


def mean_of(chances, numbers):
    """The sum of the chances times the numbers, two tuples of Ratios."""
    return added([chance * number for chance, number in zip(chances, numbers)])


def product_of(ratios):
    """The product of these Ratios; neighbours come first, so that what they share is cancelled early."""
    held = [Ratio(1), *ratios]
    while len(held) > 1:
        held = [held[at] * held[at + 1] if at + 1 < len(held) else held[at] for at in range(0, len(held), 2)]
    return held[0]


def common_bottom(ratios):
    """The least number that each of these Ratios times it is whole."""
    bottom = 1
    for ratio in ratios:
        bottom = lcm(bottom, ratio.bottom)
    return bottom


def scaled_tops(ratios, bottom):
    """The integers that these Ratios are over such a bottom."""
    return [ratio.top * (bottom // ratio.bottom) for ratio in ratios]


def means_compared(corners, numbers, bar):
    """For each corner -1, 0 or 1, as the mean of the numbers is less than the bar, equal to it or greater."""
    bottom = common_bottom([*numbers, bar])
    tops = scaled_tops(numbers, bottom)
    limit = scaled_tops([bar], bottom)[0]
    orders = []
    for corner in corners:
        scale = common_bottom(corner)
        more = sum([share * top for share, top in zip(scaled_tops(corner, scale), tops)]) - scale * limit
        orders.append((more > 0) - (more < 0))
    return orders


def ascending(rows):
    """The indexes of these rows of Ratios, that of the least one first: by their first ratios, then by the second."""
    bottom = common_bottom([ratio for row in rows for ratio in row])
    return [at for _, at in sorted([(tuple(scaled_tops(row, bottom)), at) for at, row in enumerate(rows)])]


def ratio_of_word(word):
    """The ratio that is written so, None if none is."""
    is_negative = word.startswith("-")
    parts = (word[1:] if is_negative else word).split("/")
    if len(parts) > 2 or not all([_is_whole_number(part) for part in parts]):
        return None
    top = int(parts[0])
    bottom = int(parts[1]) if len(parts) == 2 else 1
    if is_negative and top == 0:
        return None
    if len(parts) == 2 and (bottom < 2 or gcd(top, bottom) != 1):
        return None
    return Ratio(-top if is_negative else top, bottom)


def _is_whole_number(word):
    if not 1 <= len(word) <= Ratio.MOST_DIGITS or not all([sign in _DIGITS for sign in word]):
        return False
    return word == "0" or word[0] != "0"


def _other_ratio(other):
    told = as_ratio(other)
    if told is None:
        raise BadRatio("other")
    return told


def _furthest_of(ratios, order):
    listed = _listed_ratios(ratios)
    if not listed:
        raise BadRatio("ratios")
    furthest = listed[0]
    for ratio in listed:
        if ratio.compared(furthest) * order > 0:
            furthest = ratio
    return furthest


def _listed_ratios(ratios):
    told = as_ratios(ratios)
    if told is None:
        raise BadRatio("ratios")
    return told

"""Watches out of several watches."""

from peekproof.errors import BadWatch
from peekproof.standings import DARK, LIT, SameSigns, arms_of, explored, refuse_unlike_arms
from peekproof.watches import Joined, Watch

_MOST_WATCHES = 6


class AnyLit(SameSigns):
    """Lit as soon as one of the watches is."""

    def end_of(self, places):
        """The end that a standing is, None if it is a state."""
        if LIT in places:
            return LIT
        return None if self.asking(places) else DARK


class AllLit(SameSigns):
    """Lit as soon as all of the watches are."""

    def end_of(self, places):
        """The end that a standing is, None if it is a state."""
        ended = [place for place, watch in zip(places, self.watches) if place not in watch]
        if any([place != LIT for place in ended]):
            return DARK
        return LIT if len(ended) == len(places) else None


class OneByOne(AllLit):
    """Lit as soon as the last one is, where each one begins when the one ahead of it is lit."""

    def asking(self, standing):
        """The index of the one that runs: the first one that has not ended."""
        return super().asking(standing)[:1]


def joined(one, other):
    """The two watches joined."""
    return Joined(one, other)


def any_of(*watches):
    """The watch that is lit as soon as one of these is lit."""
    _refuse_bad_watches(watches)
    return watch_lit_or_dark(AnyLit(watches))


def all_of(*watches):
    """The watch that is lit as soon as all of these are lit."""
    _refuse_bad_watches(watches)
    return watch_lit_or_dark(AllLit(watches))


def in_order(*watches):
    """The watch that runs these one behind the other, each one when the one ahead of it is lit."""
    _refuse_bad_watches(watches)
    return watch_lit_or_dark(OneByOne(watches))


def watch_lit_or_dark(machine):
    """The watch of a machine whose ends are lit and dark."""
    lines, met = explored(machine)
    return Watch(arms_of(machine, lines, met), (LIT, DARK), lines)


def _refuse_bad_watches(watches):
    if not 1 <= len(watches) <= _MOST_WATCHES or not all([isinstance(watch, Watch) for watch in watches]):
        raise BadWatch("watches")
    refuse_unlike_arms(watches)

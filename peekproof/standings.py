"""Watches that are explored: a machine tells where each standing leads, and its states are numbered as they are met.

A machine has a `start`, the first standing, and the methods `arm_at`, `signs_at` and `moved`. A standing is what a
state stands for; `moved` tells the next one, or the label of an end.
"""

from peekproof.errors import TooMany, UnlikeArms, UnlikeSigns

LIT = "lit"
DARK = "dark"
_MOST_STATES = 200


class SameSigns:
    """Watches that see the same signs; a standing is the tuple of their places."""

    def __init__(self, watches):
        self.watches = watches
        self.start = tuple([watch.first for watch in watches])

    def asking(self, standing):
        """The indexes of the watches that ask and move there: all that have not ended."""
        return [at for at, place in enumerate(standing) if place in self.watches[at]]

    def arm_at(self, standing):
        """The one arm that these ask."""
        asking = self.asking(standing)
        arms = [self.watches[at].arm_of(standing[at]) for at in asking]
        for at, arm in zip(asking, arms):
            if arm != arms[0]:
                raise UnlikeArms(standing[asking[0]], standing[at])
        return arms[0]

    def signs_at(self, standing):
        """The signs of this arm."""
        at = self.asking(standing)[0]
        return self.watches[at].signs_of(standing[at])

    def moved(self, standing, sign):
        """The standing behind this sign, or the end that this is."""
        places = list(standing)
        for at in self.asking(standing):
            places[at] = self.watches[at].place(standing[at], sign)
        end = self.end_of(places)
        return tuple(places) if end is None else end

    def end_of(self, places):
        """The end that a standing is, None if it is a state."""
        return None if self.asking(places) else DARK


class BothEnded(SameSigns):
    """Two watches joined."""

    def end_of(self, places):
        """The end that this standing is, None if it is a state."""
        if self.asking(places):
            return None
        one, other = places
        if one == LIT:
            return "both" if other == LIT else "one"
        return "other" if other == LIT else "none"


def explored(machine):
    """The lines (state, arm, places) of the watch of a machine, and the standings that its states stand for."""
    met = [machine.start]
    numbers = {machine.start: 0}
    lines = []
    while len(lines) < len(met):
        standing = met[len(lines)]
        arm = machine.arm_at(standing)
        places = []
        for sign in machine.signs_at(standing):
            place = machine.moved(standing, sign)
            if not isinstance(place, str):
                if place not in numbers:
                    if len(met) == _MOST_STATES:
                        raise TooMany("states", _MOST_STATES)
                    numbers[place] = len(met)
                    met.append(place)
                place = f"s{numbers[place]}"
            places.append(place)
        lines.append((f"s{len(lines)}", arm, places))
    return lines, met


def arms_of(machine, lines, met):
    """The arms that are asked, with their signs."""
    return {line[1]: machine.signs_at(standing) for line, standing in zip(lines, met)}


def refuse_unlike_signs(one, other):
    """Refuses the first arm of one that other has with other signs or in another order."""
    there = {arm: signs for arm, signs in other.arms}
    for arm, signs in one.arms:
        if there.get(arm, signs) != signs:
            raise UnlikeSigns(arm)


def refuse_unlike_arms(watches):
    """Refuses the first arm, watch by watch, that an earlier watch has with other signs or in another order."""
    known = {}
    for watch in watches:
        for arm, signs in watch.arms:
            if known.get(arm, signs) != signs:
                raise UnlikeSigns(arm)
            known[arm] = signs


def met_from(first, ways):
    """The states met from the first one on, and the ends met; ways tells the places behind each state, in order."""
    states = [first]
    ends = []
    known = {first: True}
    at = 0
    while at < len(states):
        for place in ways[states[at]]:
            if place not in known:
                known[place] = True
                if place in ways:
                    states.append(place)
                else:
                    ends.append(place)
        at += 1
    return tuple(states), tuple(ends)


def row_to(pair, ways):
    """The signs by which the pair was come to, where ways tells of each pair the one ahead of it and the sign."""
    signs = []
    while ways[pair] is not None:
        pair, sign = ways[pair]
        signs.append(sign)
    return signs[::-1]

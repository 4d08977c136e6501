"""Which watches are alike, and the smallest ones that are."""

from peekproof.checks import is_one_of
from peekproof.made import ends_with
from peekproof.papers import Denial, Paper
from peekproof.standings import LIT, met_from, row_to
from peekproof.watches import Watch, refuse_no_watch, refuse_unlike_watches


class Alike(Paper):
    """The pairs of states to which the same rows lead."""

    def __init__(self, pairs):
        super().__init__("alike", pairs)
        self.pairs = self.parts[0]


class Unlike(Denial):
    """A row that parts two watches."""

    def __init__(self, row):
        super().__init__("unlike", row)
        self.row = self.parts[0]


def alike(one, other):
    """An Alike, or an Unlike with the least row that parts the two watches."""
    refuse_unlike_watches(one, other)
    start = (one.first, other.first)
    if not _are_like_places(one, other, start):
        return Unlike(())
    met = [start]
    # Only how each pair was come to is kept: a row for each one would grow with the square of their number.
    steps = {start: None}
    at = 0
    while at < len(met):
        state, there = met[at]
        for sign in one.signs_of(state):
            pair = (one.place(state, sign), other.place(there, sign))
            if not _are_like_places(one, other, pair):
                return Unlike([*row_to(met[at], steps), sign])
            if pair[0] in one and pair not in steps:
                steps[pair] = (met[at], sign)
                met.append(pair)
        at += 1
    return Alike(met)


def shows_alike(one, other, value):
    """Whether value shows that the two watches are alike, or that they are not."""
    refuse_unlike_watches(one, other)
    if isinstance(value, Alike):
        return _are_closed_pairs(one, other, value.pairs)
    return isinstance(value, Unlike) and _is_parting_row(one, other, value.row)


def folded(watch):
    """The watch that is alike and has the fewest states."""
    refuse_no_watch(watch, "watch")
    states = watch.reached()
    kinds = _kinds_of(watch, states)
    firsts = {}
    for state in states:
        firsts.setdefault(kinds[state], state)
    bears = {state: firsts[kinds[state]] for state in states}
    kept = [state for state in states if bears[state] == state]
    return _watch_of(watch, watch.ends, kept, bears)


def settled(watch, dark="dark"):
    """The watch with an end in the place of each state from which no row leads to lit."""
    refuse_no_watch(watch, "watch")
    ends = ends_with(watch, dark)
    hopeful = _states_to_lit(watch)
    bears = {state: state if state in hopeful else dark for state in watch}
    ways = {state: [bears.get(place, place) for place in watch.places_of(state)] for state in watch}
    met = met_from(watch.first, ways)[0]
    return _watch_of(watch, ends, [state for state in watch if state in met], bears)


def _are_like_places(one, other, pair):
    """Whether these are ends of one label, or states that ask one arm."""
    here, there = pair
    if here in one and there in other:
        return one.arm_of(here) == other.arm_of(there)
    return here not in one and there not in other and here == there


def _are_closed_pairs(one, other, pairs):
    if not isinstance(pairs, tuple) or not all([_is_pair_of_states(one, other, pair) for pair in pairs]):
        return False
    known = {pair: True for pair in pairs}
    if (one.first, other.first) not in known:
        return False
    for here, there in pairs:
        if not _are_like_places(one, other, (here, there)):
            return False
        for pair in zip(one.places_of(here), other.places_of(there)):
            if pair not in known and (pair[0] in one or not _are_like_places(one, other, pair)):
                return False
    return True


def _is_pair_of_states(one, other, pair):
    return isinstance(pair, tuple) and len(pair) == 2 and pair[0] in one and pair[1] in other


def _is_parting_row(one, other, row):
    if not isinstance(row, tuple):
        return False
    here, there = one.first, other.first
    for sign in row:
        if not _is_sign_at(one, here, sign) or not _is_sign_at(other, there, sign):
            return False
        here, there = one.place(here, sign), other.place(there, sign)
    return not _are_like_places(one, other, (here, there))


def _is_sign_at(watch, place, sign):
    return place in watch and is_one_of(sign, watch.signs_of(place))


def _kinds_of(watch, states):
    """A number for each state, the same for those that are alike."""
    kinds = _numbered({state: watch.arm_of(state) for state in states})
    many = 0
    while many < len(set(list(kinds.values()))):
        many = len(set(list(kinds.values())))
        kinds = _numbered({state: (kinds[state], *[kinds.get(place, place) for place in watch.places_of(state)])
                           for state in states})
    return kinds


def _numbered(told):
    """For each key the number of what is told of it, in the order in which this comes first."""
    numbers = {}
    for thing in told.values():
        numbers.setdefault(thing, len(numbers))
    return {key: numbers[told[key]] for key in told}


def _states_to_lit(watch):
    """A dict of the states from which some row leads to lit."""
    found = {}
    many = -1
    while many < len(found):
        many = len(found)
        for state in watch:
            if any([place == LIT or place in found for place in watch.places_of(state)]):
                found[state] = True
    return found


def _watch_of(watch, ends, states, bears):
    """The watch of these states alone, with what bears tells in the place of each state."""
    lines = [(state, watch.arm_of(state), [bears.get(place, place) for place in watch.places_of(state)])
             for state in states]
    return Watch({watch.arm_of(state): watch.signs_of(state) for state in states}, ends, lines)

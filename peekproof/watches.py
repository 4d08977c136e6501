"""Watches: finite machines on what the trials show."""

from peekproof.checks import are_labels, is_label, is_listed, is_one_of, is_within
from peekproof.errors import BadNumbers, BadWatch, NoEnd, NoSign, NoState, TooMany
from peekproof.standings import BothEnded, arms_of, explored, met_from, refuse_unlike_signs
from peekproof.watch_text import read_watch


class Watch:
    """A watch with these arms, ends and states."""

    LIT = "lit"
    MOST = 200

    def __init__(self, arms, ends, states):
        _refuse_bad_arms(arms)
        if not are_labels(ends, 1, 9):
            raise BadWatch("ends")
        _refuse_bad_states(states, ends)
        _refuse_bad_asks(arms, states)
        _refuse_bad_places(arms, ends, states)
        if len(states) > Watch.MOST:
            raise TooMany("states", Watch.MOST)
        self.ends = tuple(ends)
        self.states = tuple([state for state, _, _ in states])
        self.first = self.states[0]
        self.arms = _arms_as_asked(arms, states)
        self._signs = {arm: signs for arm, signs in self.arms}
        self._asked = {state: arm for state, arm, _ in states}
        self._places = {state: tuple(places) for state, _, places in states}
        self._ways = {state: _way(arms[arm], places) for state, arm, places in states}

    def arm_of(self, state):
        """The arm that the state asks."""
        self._refuse_no_state(state)
        return self._asked[state]

    def signs_of(self, state):
        """The signs of the arm that the state asks."""
        self._refuse_no_state(state)
        return self._signs[self._asked[state]]

    def places_of(self, state):
        """The places to which these signs lead."""
        self._refuse_no_state(state)
        return self._places[state]

    def place(self, state, sign):
        """The place behind the sign at the state."""
        self._refuse_no_state(state)
        return self._place_behind(state, sign)

    def after(self, row):
        """The place to which a list of signs leads."""
        if not is_listed(row):
            raise BadWatch("row")
        place = self.first
        for sign in row:
            if place not in self._ways:
                raise NoSign(sign)
            place = self._place_behind(place, sign)
        return place

    def lit_by(self, row):
        """How many of the signs have been shown when the watch is lit, None if it is not."""
        if not is_listed(row):
            raise BadWatch("row")
        place = self.first
        shown = 0
        for sign in row:
            if place not in self._ways:
                break
            place = self._place_behind(place, sign)
            shown += 1
        return shown if place == Watch.LIT else None

    def reached(self):
        """The states to which rows lead, as they are met."""
        return met_from(self.first, self._places)[0]

    def begun(self, state):
        """The watch that begins at this state."""
        self._refuse_no_state(state)
        order = [state, *[other for other in self.states if other != state]]
        lines = [(label, self._asked[label], self._places[label]) for label in order]
        return Watch(dict(self.arms), self.ends, lines)

    def rows_to(self, end, most):
        """Yields the rows of at most most signs that lead to the end, in order."""
        if not is_within(most, 0, 6):
            raise BadNumbers("most")
        if not is_one_of(end, self.ends):
            raise NoEnd(end)
        running = [((), self.first)]
        for _ in range(most):
            shown = [((*row, sign), place) for row, state in running for sign, place in self._ways[state].items()]
            for row, place in shown:
                if place == end:
                    yield row
            running = [(row, place) for row, place in shown if place in self._ways]

    def __len__(self):
        return len(self.states)

    def __iter__(self):
        return iter(self.states)

    def __contains__(self, value):
        return is_one_of(value, self._asked)

    def __eq__(self, other):
        if not isinstance(other, Watch):
            return False
        return (self.ends == other.ends and self.states == other.states and self.arms == other.arms
                and self._asked == other._asked and self._places == other._places)

    def __and__(self, other):
        return Joined(self, other)

    def __str__(self):
        return " / ".join([" ".join(group) for group in self._groups()])

    def _groups(self):
        arms = [[arm, ":", *signs] for arm, signs in self.arms]
        states = [[state, self._asked[state], ":", *self._places[state]] for state in self.states]
        return [*arms, self.ends, *states]

    @staticmethod
    def read(text):
        """The watch with this text."""
        arms, ends, states = read_watch(text, Watch.MOST)
        return Watch(arms, ends, states)

    def _refuse_no_state(self, state):
        if not is_one_of(state, self._asked):
            raise NoState(state)

    def _place_behind(self, state, sign):
        way = self._ways[state]
        if not is_one_of(sign, way):
            raise NoSign(sign)
        return way[sign]


class Joined(Watch):
    """Two watches joined."""

    def __init__(self, one, other):
        refuse_unlike_watches(one, other)
        machine = BothEnded((one, other))
        lines, met = explored(machine)
        super().__init__(arms_of(machine, lines, met), ("both", "one", "other", "none"), lines)
        self.one = one
        self.other = other
        self._pairs = {line[0]: pair for line, pair in zip(lines, met)}

    def pair_of(self, state):
        """The pair of places of the two watches that this state stands for."""
        if not is_one_of(state, self._pairs):
            raise NoState(state)
        return self._pairs[state]


def refuse_no_watch(watch, part):
    """Refuses any value that is no Watch."""
    if not isinstance(watch, Watch):
        raise BadWatch(part)


def refuse_unlike_watches(one, other):
    """Refuses any values that are not two watches whose common arms have the same signs in the same order."""
    refuse_no_watch(one, "one")
    refuse_no_watch(other, "other")
    refuse_unlike_signs(one, other)


def _refuse_bad_arms(arms):
    if not isinstance(arms, dict) or not arms:
        raise BadWatch("arms")
    for arm, signs in arms.items():
        if not is_label(arm) or not are_labels(signs, 1, 12):
            raise BadWatch("arms")


def _refuse_bad_states(states, ends):
    if not is_listed(states) or not states:
        raise BadWatch("states")
    known = {Watch.LIT: True}
    for line in states:
        if not is_listed(line) or len(line) != 3 or not is_label(line[0]) or line[0] in known or line[0] in ends:
            raise BadWatch("states")
        known[line[0]] = True


def _refuse_bad_asks(arms, states):
    if not all([is_one_of(arm, arms) for _, arm, _ in states]):
        raise BadWatch("asks")
    asked = {arm: True for _, arm, _ in states}
    if len(asked) != len(arms):
        raise BadWatch("asks")


def _refuse_bad_places(arms, ends, states):
    known = {state: True for state, _, _ in states}
    for _, arm, places in states:
        if not is_listed(places) or len(places) != len(arms[arm]):
            raise BadWatch("places")
        if not all([is_one_of(place, known) or is_one_of(place, ends) for place in places]):
            raise BadWatch("places")


def _arms_as_asked(arms, states):
    asked = {arm: tuple(arms[arm]) for _, arm, _ in states}
    return tuple([(arm, signs) for arm, signs in asked.items()])


def _way(signs, places):
    return {sign: place for sign, place in zip(signs, places)}

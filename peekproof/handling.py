"""How the signs of a plain study are handled: what is made of its states, its arms and its crowds.

A pocket is a pair (left, held): how much of the budget is left, None without one, and the tuple of the signs held.
"""

from peekproof.crowds import Crowd
from peekproof.errors import TooMany
from peekproof.labels import dotted, refuse_long_labels, refuse_twice
from peekproof.ratios import Ratio
from peekproof.watches import Watch


class Act:
    """What a sign of a handled study does: it draws a plain sign, or None, and tells some; then there is a pocket."""

    def __init__(self, label, draws, tells, behind):
        self.label = label
        self.draws = draws
        self.tells = tells
        self.behind = behind


class Handling:
    """What handled studies have in common; the classes below tell what is made at each pocket."""

    MOST_ARMS = 40

    def __init__(self, plain, most, pockets):
        self.plain = plain
        self.most = most
        self.pockets = tuple(pockets)
        self.crowds = {arm: crowd for arm, crowd in plain.crowds}

    def state_label(self, state, pocket):
        """The label of the state that stands for a plain one with this pocket."""
        return state

    def arm_label(self, arm, pocket):
        """The label of the arm that is asked in the place of a plain one with this pocket."""
        return arm

    def acts_of(self, arm, pocket):
        """The acts of this arm with this pocket, in order."""
        return [Act(sign, sign, (sign,), pocket) for sign in self.crowds[arm].signs]

    def many_corners(self, arm, pocket):
        """How many corners there are over the signs of these acts."""
        return len(self.crowds[arm])

    def corners_made(self, arm, pocket):
        """These corners."""
        return self.crowds[arm].corners


class Spending(Handling):
    """The world may spend the budget on drawn signs: each of these is told so many times in the place of once."""

    def __init__(self, plain, most, letter, word, times):
        super().__init__(plain, most, [(None, ())] if most is None else [(most - at, ()) for at in range(most + 1)])
        self.letter = letter
        self.word = word
        self.times = times

    def state_label(self, state, pocket):
        """The label of the state with so much left; without a budget the plain one."""
        return state if pocket[0] is None else dotted(state, f"{self.letter}{pocket[0]}")

    def arm_label(self, arm, pocket):
        """The label of the arm, which tells whether there is something left."""
        return dotted(arm, "told" if pocket[0] == 0 else self.word)

    def acts_of(self, arm, pocket):
        """Each sign told once; then, if something is left, each sign handled."""
        acts = super().acts_of(arm, pocket)
        if pocket[0] == 0:
            return acts
        behind = pocket if pocket[0] is None else (pocket[0] - 1, ())
        return [*acts, *[Act(dotted(act.draws, self.word), act.draws, act.tells * self.times, behind) for act in acts]]

    def many_corners(self, arm, pocket):
        """How many corners there are over the signs of these acts."""
        corners = self.crowds[arm].corners
        return len(corners) if pocket[0] == 0 else many_moved(corners)

    def corners_made(self, arm, pocket):
        """These corners: signs are moved to the handled ones, if something is left."""
        corners = self.crowds[arm].corners
        return corners if pocket[0] == 0 else moved_corners(corners)


class Handiwork:
    """The watch and the crowds that a handling makes.

    The attribute stands tells for each state the pair (plain state, pocket) that it stands for; hears tells for each
    state, by its signs, the pair (drawn sign, signs told), where none is told behind the end of the plain watch.
    """

    def __init__(self, handling):
        plain = handling.plain.watch
        pairs = [(state, pocket) for state in plain.states for pocket in handling.pockets]
        if len(pairs) > Watch.MOST:
            raise TooMany("states", Watch.MOST)
        self.stands = {handling.state_label(state, pocket): (state, pocket) for state, pocket in pairs}
        asked = {}
        for state, pocket in pairs:
            arm = plain.arm_of(state)
            asked.setdefault(handling.arm_label(arm, pocket), (arm, pocket))
        signs = _signs_made(handling, asked)
        _refuse_bad_labels(self.stands, signs, plain.ends)
        self.crowds = {label: Crowd(signs[label], handling.corners_made(arm, pocket))
                       for label, (arm, pocket) in asked.items()}
        acts = {label: handling.acts_of(plain.arm_of(state), pocket) for label, (state, pocket) in self.stands.items()}
        self.hears = {label: {act.label: (act.draws, _heard_from(plain, state, act.tells)) for act in acts[label]}
                      for label, (state, _) in self.stands.items()}
        lines = [(label, handling.arm_label(plain.arm_of(state), pocket),
                  [_place_of(handling, _place_after(plain, state, act.tells), act.behind) for act in acts[label]])
                 for label, (state, pocket) in self.stands.items()]
        self.watch = Watch(signs, plain.ends, lines)


def many_moved(corners):
    """How many corners there are in which signs are moved."""
    return sum([1 << len([chance for chance in corner if chance.sign > 0]) for corner in corners])


def moved_corners(corners):
    """The corners in which signs are moved to others, which stand behind them: for each corner each set of signs."""
    return [[*[Ratio(0) if at in moved else chance for at, chance in enumerate(corner)],
             *[chance if at in moved else Ratio(0) for at, chance in enumerate(corner)]]
            for corner in corners for moved in _sets_moved(corner)]


def _sets_moved(corner):
    """The sets of the signs that have a chance above 0, in the order of their numbers: 1, 2, 4 .. for each sign."""
    sets = [()]
    for at, chance in enumerate(corner):
        if chance.sign > 0:
            sets = [*sets, *[(*moved, at) for moved in sets]]
    return sets


def _signs_made(handling, asked):
    """The signs of each arm that is made; refuses too many arms, signs and corners."""
    if len(asked) > handling.MOST_ARMS:
        raise TooMany("arms", handling.MOST_ARMS)
    signs = {label: [act.label for act in handling.acts_of(arm, pocket)]
             for label, (arm, pocket) in asked.items()}
    if any([len(listed) > Crowd.MOST_SIGNS for listed in signs.values()]):
        raise TooMany("signs", Crowd.MOST_SIGNS)
    if any([handling.many_corners(arm, pocket) > Crowd.MOST_CORNERS for arm, pocket in asked.values()]):
        raise TooMany("corners", Crowd.MOST_CORNERS)
    return signs


def _refuse_bad_labels(states, signs, ends):
    """Refuses made labels that are too long, or that meet."""
    refuse_long_labels([*states, *signs, *[sign for listed in signs.values() for sign in listed]])
    for listed in signs.values():
        refuse_twice(listed, ())
    refuse_twice(states, ends)


def _heard_from(watch, state, signs):
    """Those of the signs that are told from the state on: none behind an end."""
    heard = []
    for sign in signs:
        if _place_after(watch, state, heard) in watch:
            heard.append(sign)
    return tuple(heard)


def _place_after(watch, state, signs):
    """The place to which the signs lead from the state; an end is for ever."""
    place = state
    for sign in signs:
        if place in watch:
            place = watch.place(place, sign)
    return place


def _place_of(handling, place, pocket):
    """The place that stands for a plain one with this pocket."""
    return handling.state_label(place, pocket) if place in handling.plain.watch else place

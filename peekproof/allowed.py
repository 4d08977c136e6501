"""Which chances a crowd allows, and which corners it needs, with papers that show it."""

from peekproof.crowds import Crowd
from peekproof.errors import BadChances, BadCrowd
from peekproof.mixtures import different, weights_or_factors
from peekproof.papers import Denial, Paper
from peekproof.ratios import Ratio, as_shares


class Mixed(Paper):
    """These weights make the chances out of the corners."""

    def __init__(self, weights):
        super().__init__("mixed", weights)
        self.weights = self.parts[0]


class Parted(Denial):
    """These factors part the chances from the crowd."""

    def __init__(self, factors):
        super().__init__("parted", factors)
        self.factors = self.parts[0]


class Covered(Paper):
    """For each corner of a crowd the weights that make it out of the wide one's corners."""

    def __init__(self, lines):
        super().__init__("covered", lines)
        self.lines = self.parts[0]


class Beyond(Denial):
    """The corner with this index is parted from the wide crowd by these factors."""

    def __init__(self, index, factors):
        super().__init__("beyond", index, factors)
        self.index = self.parts[0]
        self.factors = self.parts[1]


class Lean(Paper):
    """Why corners are kept, and what those that are left are mixtures of."""

    def __init__(self, kept, left):
        super().__init__("lean", kept, left)
        self.kept = self.parts[0]
        self.left = self.parts[1]


def allowed(crowd, chances):
    """A Mixed or a Parted: whether the crowd allows the chances."""
    told = told_chances(crowd, chances)
    weights, factors = weights_or_factors(crowd.corners, told)
    return Parted(factors) if weights is None else Mixed(weights)


def covered(crowd, wide):
    """A Covered or a Beyond: whether the wide crowd covers the crowd."""
    refuse_unlike_crowds(crowd, wide)
    lines = []
    for index, corner in enumerate(crowd.corners):
        weights, factors = weights_or_factors(wide.corners, corner)
        if weights is None:
            return Beyond(index, factors)
        lines.append(weights)
    return Covered(lines)


def leaned(crowd):
    """A Lean: why each corner of the crowd is needed or needless."""
    refuse_no_crowd(crowd, "crowd")
    needed = [crowd.corners[at] for at in crowd.needed]
    kept = {}
    left = {}
    for at, corner in enumerate(crowd.corners):
        if at in crowd.needed:
            kept[at] = weights_or_factors(different(crowd.corners, corner), corner)[1]
        else:
            weights = weights_or_factors(needed, corner)[0]
            held = {place: weight for place, weight in zip(crowd.needed, weights)}
            left[at] = [held.get(place, Ratio(0)) for place in range(len(crowd))]
    return Lean(kept, left)


def refuse_no_crowd(crowd, part):
    """Refuses any value that is no Crowd."""
    if not isinstance(crowd, Crowd):
        raise BadCrowd(part)


def told_chances(crowd, chances):
    """The tuple of the Ratios of the chances; refuses what are none over the crowd's signs."""
    refuse_no_crowd(crowd, "crowd")
    told = as_shares(chances, len(crowd.signs))
    if told is None:
        raise BadChances("chances")
    return told


def refuse_unlike_crowds(crowd, wide):
    """Refuses any values that are not two crowds with the same signs in the same order."""
    refuse_no_crowd(crowd, "crowd")
    refuse_no_crowd(wide, "wide")
    if crowd.signs != wide.signs:
        raise BadCrowd("fit")

"""How often so many of some tied studies can be lit at once, of which nothing else is known."""

from peekproof.checks import is_name, is_within
from peekproof.errors import BadNumbers, TooMany
from peekproof.papers import Paper
from peekproof.ratios import Ratio, added, as_chance, ascending, common_bottom, least_of, scaled_tops

_MOST_NAMES = 60


class Tied(Paper):
    """The greatest chance, with the weights that show that it is no more and the lots that show that it is as much."""

    def __init__(self, number, weights, lots):
        super().__init__("tied", number, weights, lots)
        self.number = self.parts[0]
        self.weights = self.parts[1]
        self.lots = self.parts[2]


def tied(many, ratios):
    """A Tied of the greatest chance that so many or more are lit."""
    chances = refuse_bad_tie(many, ratios)
    names = sorted(chances)
    order = [names[at] for at in ascending([[chances[name]] for name in names])]
    bounds = [added([chances[name] for name in order[:len(order) - left]]).over(many - left) for left in range(many)]
    number = least_of([Ratio(1), *bounds])
    return Tied(number, _weights(order, many, bounds, number), _lots(names, chances, many, number))


def refuse_bad_tie(many, ratios):
    """The dict of the Ratios; refuses what is no dict of them, and no number of its names."""
    if not isinstance(ratios, dict) or not ratios or not all([is_name(name) for name in ratios]):
        raise BadNumbers("ratios")
    chances = {name: as_chance(ratio) for name, ratio in ratios.items()}
    if any([chance is None for chance in chances.values()]):
        raise BadNumbers("ratios")
    if len(chances) > _MOST_NAMES:
        raise TooMany("names", _MOST_NAMES)
    if not is_within(many, 1, len(chances)):
        raise BadNumbers("many")
    return chances


def _weights(order, many, bounds, number):
    """Weights that show that the chance is no more, None if it is 1; order has the names, the least ratio first."""
    left = [at for at, bound in enumerate(bounds) if bound == number]
    if not left:
        return None
    return {name: Ratio(int(at < len(order) - left[0]), many - left[0]) for at, name in enumerate(order)}


def _shares(tops, length, many):
    """For each of these numbers a part of it, none above the length, that add up to so many times the length."""
    shares = []
    wanted = length * many
    for top in tops:
        shares.append(min(top, length, wanted))
        wanted -= shares[-1]
    return shares


def _lots(names, chances, many, number):
    """Lots in which so many of the names come together just as often as the number tells.

    Shares of the names lie behind one another round a ring as long as the number. None is longer than the ring, and
    all together go round it so many times: so each spot lies on so many of them, and all names on it make a lot.
    """
    ratios = [chances[name] for name in names]
    bottom = common_bottom([number, *ratios])
    length = scaled_tops([number], bottom)[0]
    shares = _shares(scaled_tops(ratios, bottom), length, many)
    starts = [_on_ring(sum(shares[:at]), length) for at in range(len(shares))]
    cuts = sorted(set(starts)) if length else []
    lots = [([name for name, start, share in zip(names, starts, shares) if _on_ring(cut - start, length) < share],
             Ratio(stop - cut, bottom)) for cut, stop in zip(cuts, [*cuts[1:], length])]
    return lots if number == 1 else [*lots, ((), Ratio(1) - number)]


def _on_ring(spot, length):
    """Where this spot lies on a ring of this length."""
    return spot - length * (spot // length) if length else 0

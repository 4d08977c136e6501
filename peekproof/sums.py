"""The chance that weights add up to enough."""

from peekproof.ratios import Ratio


def chance_of_enough(enough, weights, chances):
    """The chance that the weights that come add up to enough or more, if each one comes apart, with its chance."""
    tops = {0: 1}
    bottom = 1
    left = sum(weights)
    for weight, chance in zip(weights, chances):
        left = left - weight
        tops = _with_one_more(tops, weight, chance, enough, left)
        bottom = bottom * chance.bottom
    return Ratio(tops.get(enough, 0), bottom)


def _with_one_more(tops, weight, chance, enough, left):
    """What comes to each sum, up to enough, as integers over one bottom, if this weight is one more.

    Sums that are not enough even with all weights that are left count no more.
    """
    made = {}
    for total, top in tops.items():
        for reached, share in ((total, chance.bottom - chance.top), (min(total + weight, enough), chance.top)):
            if reached + left >= enough:
                made[reached] = made.get(reached, 0) + top * share
    return made

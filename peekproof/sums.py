"""The chance that weights add up to enough."""

from peekproof.ratios import Ratio


def chance_of_enough(enough, weights, chances):
    """The chance that the weights that come add up to enough or more, if each one comes apart, with its chance."""
    tops = {0: 1}
    bottom = 1
    for weight, chance in zip(weights, chances):
        tops = _with_one_more(tops, weight, chance, enough)
        bottom = bottom * chance.bottom
    return Ratio(tops.get(enough, 0), bottom)


def _with_one_more(tops, weight, chance, enough):
    """What comes to each sum, up to enough, as integers over one bottom, if this weight is one more."""
    made = {}
    for total, top in tops.items():
        made[total] = made.get(total, 0) + top * (chance.bottom - chance.top)
        reached = min(total + weight, enough)
        made[reached] = made.get(reached, 0) + top * chance.top
    return made

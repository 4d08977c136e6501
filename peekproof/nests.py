"""Studies within studies: an arm is asked of an inner study, whose ends are its signs."""

from peekproof.checks import is_label, is_listed, is_one_of
from peekproof.costs import Costs
from peekproof.crowds import Crowd
from peekproof.errors import BadCosts, BadNest, NoArm
from peekproof.flattening import Flattening
from peekproof.moves import refuse_no_study
from peekproof.ratios import Ratio
from peekproof.shapes import shape_of
from peekproof.studies import Study


def nested(study, inners):
    """The study in which each named arm has the shape of its inner study as crowd."""
    _refuse_no_inners(study, inners)
    _refuse_unfit_inners(study, inners)
    return Study(study.watch, {arm: _crowd_of_shape(crowd.signs, inners[arm]) if arm in inners else crowd
                               for arm, crowd in study.crowds})


def flattened(study, inners):
    """The study with the states of the inner studies in the place of those that ask the named arms."""
    _refuse_no_inners(study, inners)
    _refuse_unfit_inners(study, inners)
    return Flattening(study, inners).flat_study()


def outer_row(study, inners, row):
    """The signs of the study that a row of the flattened study shows."""
    _refuse_no_inners(study, inners)
    _refuse_unfit_inners(study, inners)
    flattening = Flattening(study, inners)
    watch = flattening.flat_study().watch
    if not is_listed(row):
        raise BadNest("row")
    place = watch.first
    shown = []
    for sign in row:
        if place not in watch or not is_one_of(sign, watch.signs_of(place)):
            raise BadNest("row")
        shown.append(flattening.outer_sign(place, sign))
        place = watch.place(place, sign)
    return tuple([sign for sign in shown if sign is not None])


def flat_costs(study, inners, costs, inner_costs):
    """The costs of the flattened study's watch."""
    _refuse_no_inners(study, inners)
    if not isinstance(costs, Costs) or costs.watch != study.watch:
        raise BadCosts("costs")
    if not _are_inner_costs(inners, inner_costs):
        raise BadCosts("inner_costs")
    _refuse_unfit_inners(study, inners)
    flattening = Flattening(study, inners)
    watch = flattening.flat_study().watch
    return Costs(watch, {label: {sign: _flat_cost(flattening, label, sign, costs, inner_costs)
                                 for sign in watch.signs_of(label)} for label in watch.states})


def _refuse_no_inners(study, inners):
    refuse_no_study(study)
    if not isinstance(inners, dict) or not all([is_label(arm) for arm in inners]):
        raise BadNest("inners")
    if not all([isinstance(inner, Study) for inner in inners.values()]):
        raise BadNest("inners")


def _refuse_unfit_inners(study, inners):
    signs = {arm: arm_signs for arm, arm_signs in study.watch.arms}
    for arm in sorted(inners):
        if arm not in signs:
            raise NoArm(arm)
    for arm, inner in inners.items():
        if not all([end in signs[arm] for end in inner.watch.ends]):
            raise BadNest("ends")


def _crowd_of_shape(signs, inner):
    """The crowd over these signs with the corners of the inner study's shape; a sign that is no end has no chance."""
    shape = shape_of(inner)
    lines = [{end: chance for end, chance in zip(shape.ends, corner)} for corner in shape.corners]
    return Crowd(signs, [[line.get(sign, 0) for sign in signs] for line in lines])


def _are_inner_costs(inners, inner_costs):
    """Whether it is a dict from some of the inner studies' arms to costs of their watches."""
    if not isinstance(inner_costs, dict) or not all([is_one_of(arm, inners) for arm in inner_costs]):
        return False
    return all([isinstance(costs, Costs) and costs.watch == inners[arm].watch for arm, costs in inner_costs.items()])


def _flat_cost(flattening, label, sign, costs, inner_costs):
    """What the sign costs at the inner state there, and what the sign of the study that it shows costs."""
    state, inner = flattening.stands[label]
    arm = flattening.study.watch.arm_of(state)
    shown = flattening.outer_sign(label, sign)
    inside = inner_costs[arm][inner, sign] if inner is not None and arm in inner_costs else Ratio(0)
    return inside if shown is None else inside + costs[state, shown]

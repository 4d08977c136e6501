"""Rows of a study, of signs possible or not: where they lead, and how great their chance can be."""

from peekproof.ratios import greatest_of, product_of


def crowd_at(study, state):
    """The crowd of the arm that any state of the study's watch asks."""
    return {arm: crowd for arm, crowd in study.crowds}[study.watch.arm_of(state)]


def states_along(watch, row):
    """The states at which the signs of the row come, in order."""
    states = []
    place = watch.first
    for sign in row:
        states.append(place)
        place = watch.place(place, sign)
    return states


def best_corner(study, state, sign):
    """The index of the first corner at which the sign has its greatest chance at the state."""
    chances = _chances_at(study, state, sign)
    return chances.index(greatest_of(chances))


def chance_of_row(study, row):
    """The greatest chance that the signs are just this row."""
    return product_of([greatest_of(_chances_at(study, state, sign))
                       for state, sign in zip(states_along(study.watch, row), row)])


def _chances_at(study, state, sign):
    """The chances of the sign at the corners of the arm that the state asks."""
    crowd = crowd_at(study, state)
    place = {other: at for at, other in enumerate(crowd.signs)}[sign]
    return [corner[place] for corner in crowd.corners]

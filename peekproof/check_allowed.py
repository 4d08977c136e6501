"""Whether papers about crowds are right: by adding, multiplying and comparing alone."""

from peekproof.allowed import Beyond, Covered, Lean, Mixed, Parted
from peekproof.allowed import refuse_no_crowd, refuse_unlike_crowds, told_chances
from peekproof.checks import is_within
from peekproof.papers import is_table
from peekproof.ratios import as_amounts, as_shares, mean_of


def shows_allowed(crowd, chances, value):
    """Whether value shows that the crowd allows the chances, or that it does not."""
    told = told_chances(crowd, chances)
    if isinstance(value, Mixed):
        return _is_mixed(crowd, value.weights, told)
    return isinstance(value, Parted) and _is_parted(crowd.corners, value.factors, told)


def shows_covered(crowd, wide, value):
    """Whether value shows that the wide crowd covers the crowd, or that it does not."""
    refuse_unlike_crowds(crowd, wide)
    if isinstance(value, Covered):
        return _is_covered(crowd, wide, value.lines)
    if not isinstance(value, Beyond) or not is_within(value.index, 0, len(crowd) - 1):
        return False
    return _is_parted(wide.corners, value.factors, crowd.corners[value.index])


def shows_leaned(crowd, value):
    """Whether value shows which corners of the crowd are needed."""
    refuse_no_crowd(crowd, "crowd")
    if not isinstance(value, Lean) or not is_table(value.kept) or not is_table(value.left):
        return False
    indexes = [index for index, _ in [*value.kept, *value.left]]
    if not all([is_within(index, 0, len(crowd) - 1) for index in indexes]):
        return False
    if sorted(indexes) != list(range(len(crowd))):
        return False
    left = [index for index, _ in value.left]
    return (all([_is_kept(crowd, index, factors) for index, factors in value.kept])
            and all([_is_left(crowd, index, weights, left) for index, weights in value.left]))


def _is_mixed(crowd, weights, chances):
    told = as_shares(weights, len(crowd))
    if told is None:
        return False
    return all([mean_of([corner[at] for corner in crowd.corners], told) == chance
                for at, chance in enumerate(chances)])


def _is_parted(corners, factors, chances):
    told = as_amounts(factors, len(chances))
    if told is None or mean_of(chances, told).compared(1) <= 0:
        return False
    return all([mean_of(corner, told).compared(1) <= 0 for corner in corners])


def _is_covered(crowd, wide, lines):
    if not isinstance(lines, tuple) or len(lines) != len(crowd):
        return False
    return all([_is_mixed(wide, line, corner) for line, corner in zip(lines, crowd.corners)])


def _is_kept(crowd, index, factors):
    corner = crowd.corners[index]
    if corner in crowd.corners[:index]:
        return False
    return _is_parted([other for other in crowd.corners if other != corner], factors, corner)


def _is_left(crowd, index, weights, left):
    if not _is_mixed(crowd, weights, crowd.corners[index]):
        return False
    return all([weights[at] == 0 for at in left])

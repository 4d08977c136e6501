"""Linear equations with integers, solved without fractions."""


def solved(lines):
    """The numbers that keep the equations, as integers over one bottom.

    Each line has what the numbers are multiplied by, and at last what this adds up to. No beginning of the lines,
    as long as wide, has the determinant 0; so each pivot in turn is one of these determinants, and no division
    leaves a rest (Bareiss).
    """
    bottom = 1
    kept = []
    while lines:
        line = lines[0]
        kept.append(line)
        lines = [_cleared(other, line, bottom) for other in lines[1:]]
        bottom = line[0]
    return _numbers_behind(kept, bottom), bottom


def _cleared(other, line, bottom):
    """The other line without its first number, which is cleared by this line."""
    pivot, share = line[0], other[0]
    if share == 0:
        return [pivot * there // bottom for there in other[1:]]
    return [(pivot * there - share * here) // bottom for here, there in zip(line[1:], other[1:])]


def _numbers_behind(kept, bottom):
    """The numbers, from the last line back, times the bottom."""
    numbers = []
    for at in range(len(kept) - 1, -1, -1):
        line = kept[at]
        held = sum([share * number for share, number in zip(line[1:-1], numbers)])
        numbers = [(bottom * line[-1] - held) // line[0], *numbers]
    return numbers

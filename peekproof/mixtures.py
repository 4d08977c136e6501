"""Whether chances are a mixture of corners: the simplex method over integers, by pivots without fractions.

A tableau has a row for each sign and, at last, one of what is still missing; its columns are the corners, scaled to
integers, then a stand-in for each sign, then the chances. All its numbers stand over one common bottom.
"""

from peekproof.ratios import Ratio, common_bottom, scaled_tops


def weights_or_factors(corners, chances):
    """(weights, None) if the chances are a mixture of the corners, otherwise (None, factors) that part them."""
    scales = [common_bottom(corner) for corner in corners]
    columns = [scaled_tops(corner, scale) for corner, scale in zip(corners, scales)]
    scale = common_bottom(chances)
    lines, basis, bottom = _settled(_tableau(columns, scaled_tops(chances, scale)), len(columns))
    if lines[-1][-1] == 0:
        return _weights(lines, basis, scales, bottom * scale), None
    return None, _factors([part + bottom for part in lines[-1][len(columns):-1]])


def needed_of(corners):
    """The indexes of the needed corners, ascending."""
    return tuple([at for at, corner in enumerate(corners)
                  if corner not in corners[:at] and weights_or_factors(different(corners, corner), corner)[0] is None])


def different(corners, corner):
    """The corners that differ from this one, in order."""
    return [other for other in corners if other != corner]


def _tableau(columns, wanted):
    many = len(wanted)
    lines = []
    for at in range(many):
        shares = [column[at] for column in columns]
        stand_ins = [int(at == other) for other in range(many)]
        lines.append([*shares, *stand_ins, wanted[at]])
    sums = [sum(column) for column in columns]
    return [*lines, [*sums, *([0] * many), sum(wanted)]]


def _settled(lines, many):
    """The tableau when no corner makes less missing; the basis of each row; the common bottom."""
    basis = [many + at for at in range(len(lines) - 1)]
    bottom = 1
    column = _entering(lines[-1], many)
    while column is not None:
        row = _leaving(lines, basis, column)
        pivot = lines[row][column]
        lines = _pivoted(lines, row, column, bottom)
        basis = [column if at == row else held for at, held in enumerate(basis)]
        bottom = pivot
        column = _entering(lines[-1], many)
    return lines, basis, bottom


def _entering(missing, many):
    # The first column that helps, and the least one that can leave (Bland's rule): so no basis comes twice.
    for column in range(many):
        if missing[column] > 0:
            return column
    return None


def _leaving(lines, basis, column):
    best = None
    for row in range(len(basis)):
        if lines[row][column] > 0 and (best is None or _leaves_ahead(lines, basis, column, row, best)):
            best = row
    return best


def _leaves_ahead(lines, basis, column, row, best):
    here = lines[row][-1] * lines[best][column]
    there = lines[best][-1] * lines[row][column]
    return here < there or (here == there and basis[row] < basis[best])


def _pivoted(lines, row, column, bottom):
    kept = lines[row]
    pivot = kept[column]
    return [kept if at == row else _cleared(line, kept, pivot, line[column], bottom) for at, line in enumerate(lines)]


def _cleared(line, kept, pivot, share, bottom):
    if share == 0:
        return [pivot * here // bottom for here in line]
    return [(pivot * here - share * there) // bottom for here, there in zip(line, kept)]


def _weights(lines, basis, scales, bottom):
    held = {column: line[-1] for column, line in zip(basis, lines)}
    return tuple([Ratio(held.get(column, 0) * scale, bottom) for column, scale in enumerate(scales)])


def _factors(prices):
    """Factors out of prices whose mean is at most 0 at each corner and above 0 at the chances."""
    least = min(prices)
    if least >= 0:
        return tuple([Ratio(1 + price) for price in prices])
    # 1 plus the prices over the depth of the lowest one: from 0 on, and on the same side of 1 as the price is of 0.
    return tuple([Ratio(price - least, -least) for price in prices])

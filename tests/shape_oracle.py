"""The shape of a sure study, told from the rows of all its steady worlds; and what nests and flattened studies are."""

from fractions import Fraction

from tests.study_oracle import choices, steady_table


def row_of(study, picks):
    """The chances of the ends under this steady world."""
    found = []
    for end in study.watch.ends:
        worths = {other: Fraction(int(other == end)) for other in study.watch.ends}
        found.append(steady_table(study, picks, worths)[study.watch.first])
    return tuple(found)


def turn(one, other, third):
    """Above 0 if the third point lies left of the way from one to the other."""
    return (other[0] - one[0]) * (third[1] - one[1]) - (other[1] - one[1]) * (third[0] - one[0])


def hull(rows):
    """The rows that are no mixture of two others, ascending (by gift wrapping over their first two chances)."""
    rows = sorted(set(rows))
    if len(rows) == 1 or len(rows[0]) == 1:
        return rows[:1]
    if len(rows[0]) == 2:
        return [rows[0], rows[-1]]
    found = []
    for way in (rows, rows[::-1]):
        chain = []
        for row in way:
            while len(chain) > 1 and turn(chain[-2], chain[-1], row) <= 0:
                chain.pop()
            chain.append(row)
        found += chain[:-1]
    return sorted(set(found))


def corners(study):
    return hull([row_of(study, picks) for picks in choices(study)])


def greatest_mean(study, worths):
    return max(sum(worth * chance for worth, chance in zip(worths, row))
               for row in (row_of(study, picks) for picks in choices(study)))


def outer_walk(study, inners, row):
    """The signs of the study that a row of the flattened one shows, by walking the watches themselves; None for no row."""
    state, shown = study.watch.first, []
    inside = None
    for sign in row:
        if state not in study.watch:
            return None
        arm = study.watch.arm_of(state)
        if arm not in inners:
            if sign not in study.watch.signs_of(state):
                return None
            shown.append(sign)
            state = study.watch.place(state, sign)
            continue
        watch = inners[arm].watch
        inside = watch.first if inside is None else inside
        if sign not in watch.signs_of(inside):
            return None
        inside = watch.place(inside, sign)
        if inside not in watch:
            shown.append(inside)
            state, inside = study.watch.place(state, inside), None
    return tuple(shown), state, inside

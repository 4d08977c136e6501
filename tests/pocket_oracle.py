"""Handled studies, made by the words of the document alone: states, arms, signs, corners and what is told."""

import itertools
from fractions import Fraction

from peekproof.crowds import Crowd
from peekproof.ratios import Ratio
from peekproof.studies import Study
from peekproof.watches import Watch
from tests.study_oracle import number


def moved(corner):
    """The corners in which signs are moved, by the numbers of the sets."""
    able = [at for at, chance in enumerate(corner) if number(chance) > 0]
    found = []
    for mark in range(2 ** len(able)):
        kept, gone = list(corner), [Ratio(0)] * len(corner)
        for bit, at in enumerate(able):
            if mark // 2 ** bit % 2:
                kept[at], gone[at] = Ratio(0), corner[at]
        found.append(kept + gone)
    return found


def spending(study, most, letter, word, twice):
    """The Study that Lost or Doubled is, and for each state and sign (plain state, left, drawn, heard)."""
    plain, crowds = study.watch, dict(study.crowds)
    lefts = [None] if most is None else list(range(most, -1, -1))
    lines, arms, made, told = [], {}, {}, {}

    def label(state, left):
        return state if left is None else f"{state}.{letter}{left}"
    for state in plain.states:
        for left in lefts:
            arm, able = plain.arm_of(state), left != 0
            signs, corners = list(plain.signs_of(state)), [list(corner) for corner in crowds[arm].corners]
            name = f"{arm}.{word}" if able else f"{arm}.told"
            if able:
                corners = [corner for plain_corner in crowds[arm].corners for corner in moved(plain_corner)]
            places = []
            for sign in signs:
                place = plain.place(state, sign)
                places.append(label(place, left) if place in plain else place)
                told[label(state, left), sign] = (state, left, sign, (sign,))
            for sign in signs if able else []:
                less = left if left is None else left - 1
                place, heard = state, ()
                for _ in range(2 if twice else 0):
                    if place in plain:
                        place, heard = plain.place(place, sign), (*heard, sign)
                places.append(label(place, less) if place in plain else place)
                told[label(state, left), f"{sign}.{word}"] = (state, left, sign, heard)
            if able:
                signs = signs + [f"{sign}.{word}" for sign in signs]
            arms[name], made[name] = signs, Crowd(signs, corners)
            lines.append((label(state, left), name, places))
    return Study(Watch(arms, plain.ends, lines), made), told


def misreading(study, tables):
    """The Study that Misread is, and for each state and sign likewise."""
    plain, lines, arms, made, told = study.watch, [], {}, {}, {}
    for arm, crowd in study.crowds:
        pairs = [(sign, other) for sign in crowd.signs for other in crowd.signs
                 if (tables[arm][sign, other] != 0 if arm in tables else sign == other)]
        arms[arm] = [f"{sign}.{other}" for sign, other in pairs]
        made[arm] = Crowd(arms[arm], [[chance_of(corner, crowd.signs, sign) * (tables[arm][sign, other] if arm in tables else 1)
                                       for sign, other in pairs] for corner in crowd.corners])
        for state in plain.states:
            if plain.arm_of(state) == arm:
                for sign, other in pairs:
                    told[state, f"{sign}.{other}"] = (state, 0, sign, (other,))
    for state in plain.states:
        arm = plain.arm_of(state)
        lines.append((state, arm, [plain.place(state, told[state, sign][3][0]) for sign in arms[arm]]))
    return Study(Watch(arms, plain.ends, lines), made), told


def chance_of(corner, signs, sign):
    return corner[list(signs).index(sign)]


def most_lit(study, state, left, twice):
    """The greatest chance of lit from a plain state on, with so much left, where no ring is possible: by all choices."""
    if state not in study.watch:
        return Fraction(int(state == "lit"))
    best = Fraction(0)
    for corner in study.corners_of(state):
        total = Fraction(0)
        for sign, chance in zip(study.watch.signs_of(state), corner):
            if number(chance):
                place = study.watch.place(state, sign)
                values = [most_lit(study, place, left, twice)]
                if left:
                    other = state
                    if twice:
                        other = study.watch.place(place, sign) if place in study.watch else place
                    values.append(most_lit(study, other, left - 1, twice))
                total += number(chance) * max(values)
        best = max(best, total)
    return best


def late_pockets(signs, most):
    """The pockets of a late study: what is left, and the rows of signs held, shorter ones first."""
    found = []
    for left in range(most, -1, -1):
        for many in range(most - left + 1):
            found += [(left, row) for row in itertools.combinations_with_replacement(signs, many)]
    return found


def delaying(study, most):
    """The Study that Late is, and for each state and sign (plain state, left, held, drawn, heard)."""
    plain, crowds = study.watch, dict(study.crowds)
    signs = list(plain.arms[0][1])
    lines, arms, made, told = [], {}, {}, {}

    def name(pocket):
        return f"k{pocket[0]}b" + "".join(str(signs.index(sign)) for sign in pocket[1])

    def label(place, pocket):
        return f"{place}.{name(pocket)}" if place in plain else place

    for state in plain.states:
        for pocket in late_pockets(signs, most):
            left, held = pocket
            arm, here, places, shown = plain.arm_of(state), label(state, pocket), [], []
            for sign in signs:
                shown.append(sign)
                places.append(label(plain.place(state, sign), pocket))
                told[here, sign] = (state, left, held, sign, (sign,))
            for sign in signs if left else []:
                shown.append(f"{sign}.held")
                places.append(label(state, (left - 1, tuple(sorted([*held, sign], key=signs.index)))))
                told[here, shown[-1]] = (state, left, held, sign, ())
            late = [sign for sign in signs if sign in held]
            for sign in late:
                rest = list(held)
                rest.remove(sign)
                shown.append(f"{sign}.late")
                places.append(label(plain.place(state, sign), (left, tuple(rest))))
                told[here, shown[-1]] = (state, left, held, None, (sign,))
            corners = [list(corner) for corner in crowds[arm].corners]
            if left:
                corners = [corner for plain_corner in crowds[arm].corners for corner in moved(plain_corner)]
            corners = [corner + [Ratio(0)] * len(late) for corner in corners]
            corners += [[int(other == f"{sign}.late") for other in shown] for sign in late]
            title = f"{arm}.{name(pocket)}"
            arms[title], made[title] = shown, Crowd(shown, corners)
            lines.append((here, title, places))
    return Study(Watch(arms, plain.ends, lines), made), told


def most_lit_late(study, state, left, held):
    """The greatest chance of lit from a plain state on, where no ring is possible: by all choices of what is told."""
    if state not in study.watch:
        return Fraction(int(state == "lit"))

    def behind(sign, now):
        return most_lit_late(study, study.watch.place(state, sign), left, now)

    def without(sign):
        rest = list(held)
        rest.remove(sign)
        return tuple(rest)
    best = max([Fraction(0), *[behind(sign, without(sign)) for sign in set(held)]])
    for corner in study.corners_of(state):
        total = Fraction(0)
        for sign, chance in zip(study.watch.signs_of(state), corner):
            if number(chance):
                values = [behind(sign, held)]
                if left:
                    values.append(most_lit_late(study, state, left - 1, tuple(sorted([*held, sign]))))
                total += number(chance) * max(values)
        best = max(best, total)
    return best

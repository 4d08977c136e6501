"""What the document says of the text of costs, and of what is spent and waited for, told by trying everything."""

from fractions import Fraction

from tests.parts_oracle import share
from tests.study_oracle import choices, moves, number, solve
from tests.support import first_bad_word


def fits(words, watch, whole):
    """Whether these words can begin the text of costs of the watch, or are a whole one."""
    if words[:1] == ["-"]:
        return len(words) == 1
    groups, order = [[]], list(watch.states)
    for word in words:
        if word == ";":
            groups.append([])
        else:
            groups[-1].append(word)
    last = -1
    for at, group in enumerate(groups):
        done = whole or at < len(groups) - 1
        if group and (group[0] not in order or order.index(group[0]) <= last):
            return False
        if done and (len(group) < 3 or len(group) % 2 == 0):
            return False
        if group:
            last = order.index(group[0])
            signs, place = list(watch.signs_of(group[0])), -1
            for sign in group[1::2]:
                if sign not in signs or signs.index(sign) <= place:
                    return False
                place = signs.index(sign)
            if not all(share(word) for word in group[2::2]):
                return False
    return True


def cost_word(words, watch):
    """The word that is told for a text; None for a right one."""
    return first_bad_word(words, lambda some: fits(some, watch, False), lambda some: fits(some, watch, True))


def gain(study, costs, state, index):
    return sum(number(chance) * number(costs[state, sign])
               for sign, chance in zip(study.watch.signs_of(state), study.corners_of(state)[index]))


def reach(study, picks, state):
    """The states to which this world leads from the state on, with it."""
    found = [state]
    for here in found:
        for _, place in moves(study, here)[picks[here]]:
            if place in study and place not in found:
                found.append(place)
    return found


def spent_by(study, costs, picks, state):
    """What this world spends on the mean from the state on, None if it is endless."""
    live = reach(study, picks, state)
    closed = {here: set(reach(study, picks, here)) for here in live}
    kept = [here for here in live
            if all(place in study for there in closed[here] for _, place in moves(study, there)[picks[there]])
            and all(here in closed[there] for there in closed[here])]
    if any(gain(study, costs, here, picks[here]) for here in kept):
        return None
    order = [here for here in live if here not in kept]
    lines = []
    for here in order:
        line = [Fraction(int(here == other)) for other in order] + [gain(study, costs, here, picks[here])]
        for chance, place in moves(study, here)[picks[here]]:
            if place in order:
                line[order.index(place)] -= chance
        lines.append(line)
    return dict(zip(order, solve(lines))).get(state, Fraction(0))


def dearest_table(study, costs):
    """The greatest mean that a steady world spends from each state on; None for an endless one."""
    found = {}
    for state in study.states:
        numbers = [spent_by(study, costs, picks, state) for picks in choices(study)]
        found[state] = None if None in numbers else max(numbers)
    return found


def spent_in(study, costs, picks, trials):
    """What this world spends on the mean in so many trials, trial by trial."""
    chances, total = {study.watch.first: Fraction(1)}, Fraction(0)
    for _ in range(trials):
        after = {}
        for state, chance in chances.items():
            total += chance * gain(study, costs, state, picks[state])
            for share_of, place in moves(study, state)[picks[state]]:
                if place in study:
                    after[place] = after.get(place, 0) + chance * share_of
        chances = after
    return total


def wait_by(study, end, picks, state):
    """The mean number of trials to the end from the state on in this world, None if it may not come there."""
    live = reach(study, picks, state)
    for here in live:
        places = [place for there in reach(study, picks, here) for _, place in moves(study, there)[picks[there]]]
        if end not in places or any(place not in study and place != end for place in places):
            return None
    lines = []
    for here in live:
        line = [Fraction(int(here == other)) for other in live] + [Fraction(1)]
        for chance, place in moves(study, here)[picks[here]]:
            if place in live:
                line[live.index(place)] -= chance
        lines.append(line)
    return solve(lines)[0]


def soonest_table(study, end):
    """The least mean wait in a steady world from each state on; None where there is none."""
    found = {}
    for state in study.states:
        waits = [wait for wait in (wait_by(study, end, picks, state) for picks in choices(study)) if wait is not None]
        found[state] = min(waits) if waits else None
    return found

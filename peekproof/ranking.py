"""Sure ranks, and the states that have none: the greatest trap."""


def sure_ranks(study):
    """The least sure ranks, a dict in the order of the states; the states of the greatest trap have none."""
    ways = {state: _ways_of(study, state) for state in study.states}
    ahead = {}
    for state in study.states:
        for place in study.watch.places_of(state):
            ahead.setdefault(place, []).append(state)
    ranks = {end: 0 for end in study.ends}
    rank = 1
    asked = list(study.states)
    while asked:
        found = [state for state in asked if all([_is_led(way, ranks) for way in ways[state]])]
        for state in found:
            ranks[state] = rank
        rank += 1
        # Only what leads to a state just found can be found next.
        near = {state: True for place in found for state in ahead.get(place, []) if state not in ranks}
        asked = list(near)
    return {state: ranks[state] for state in study.states if state in ranks}


def places_at(study, state, corner):
    """The places to which the signs lead that have a chance above 0 at this corner."""
    return [place for place, chance in zip(study.watch.places_of(state), corner) if chance.top > 0]


def least_rows(study):
    """For each place that comes about the least possible row to it."""
    rows = {study.watch.first: ()}
    for state in study.states:
        for sign in study.possible_of(state):
            rows.setdefault(study.place(state, sign), (*rows[state], sign))
    return rows


def _ways_of(study, state):
    """The different sets of places to which the corners lead."""
    ways = {}
    for corner in study.corners_of(state):
        ways[tuple(places_at(study, state, corner))] = True
    return list(ways)


def _is_led(way, ranks):
    return any([place in ranks for place in way])

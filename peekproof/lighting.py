"""The least sets of names that light a board."""


def many_least_sets(board):
    """How many there are."""
    if not board.branches:
        return 1
    ways = {0: 1}
    found = 0
    # A set is a least one if it is enough only by its last weight, where lesser weights come later.
    for weight, many in _heaviest_first(board.weights, [many_least_sets(branch) for branch in board.branches]):
        reached = [(total + weight, count * many) for total, count in ways.items()]
        found += sum([count for total, count in reached if total >= board.enough])
        ways = _added_ways(ways, [pair for pair in reached if pair[0] < board.enough])
    return found


def least_sets_of(board):
    """All of them, tuples of names in the board's order."""
    if not board.branches:
        return [board.names]
    choices = _least_choices(board.enough, board.weights)
    # A branch that stands in no choice may have more sets than can be listed.
    sets = {at: least_sets_of(board.branches[at]) for at in range(len(board.branches))
            if any([at in choice for choice in choices])}
    return [names for choice in choices for names in _unions([sets[at] for at in choice])]


def _heaviest_first(weights, counts):
    pairs = sorted([(-weight, at) for at, weight in enumerate(weights)])
    return [(weights[at], counts[at]) for _, at in pairs]


def _added_ways(ways, reached):
    made = {total: count for total, count in ways.items()}
    for total, count in reached:
        made[total] = made.get(total, 0) + count
    return made


def _least_choices(enough, weights):
    """The least sets of branches whose weights are enough, tuples of their indexes, ascending."""
    order = [at for _, at in sorted([(-weight, at) for at, weight in enumerate(weights)])]
    found = []
    waiting = [((), 0, 0)]
    while waiting:
        chosen, total, place = waiting.pop()
        if total >= enough:
            found.append(tuple(sorted(chosen)))
        elif total + sum([weights[at] for at in order[place:]]) >= enough:
            at = order[place]
            waiting.append((chosen, total, place + 1))
            waiting.append(((*chosen, at), total + weights[at], place + 1))
    return found


def _unions(lists):
    """Each way to take one tuple of each list, put behind one another."""
    made = [()]
    for sets in lists:
        made = [(*names, *more) for names in made for more in sets]
    return made

"""What the document says of bets and their least capitals, told by trying all rows and rings; and of the text of a bet."""

from fractions import Fraction

from tests.parts_oracle import share
from tests.study_oracle import number
from tests.support import first_bad_word
from tests.watch_oracle import watch_word


def factor(bet, state, sign):
    return number(dict(bet.factors)[state][list(bet.watch.signs_of(state)).index(sign)])


def capital(bet, row):
    total, place = Fraction(1), bet.watch.first
    for sign in row:
        total *= factor(bet, place, sign)
        place = bet.watch.place(place, sign)
    return total


def steps(study, bet, state):
    """(sign, place, factor) for each possible sign."""
    corners = study.corners_of(state)
    return [(sign, study.watch.place(state, sign), factor(bet, state, sign))
            for at, sign in enumerate(study.watch.signs_of(state)) if any(number(corner[at]) for corner in corners)]


def plain_rows(study, bet, state, seen=()):
    """All rows from the state to lit that come to no state twice, with their capitals."""
    for sign, place, share_of in steps(study, bet, state):
        if place == "lit":
            yield (sign,), share_of
        elif place in study.states and place not in (*seen, state):
            for row, total in plain_rows(study, bet, place, (*seen, state)):
                yield (sign, *row), share_of * total


def rings(study, bet, start, state=None, seen=()):
    """The products along all rings from the state back to it that come to no other state twice."""
    for _, place, share_of in steps(study, bet, state or start):
        if place == start:
            yield share_of
        elif place in study.states and place not in seen:
            for total in rings(study, bet, start, place, (*seen, place)):
                yield share_of * total


def case(study, bet):
    """The word of the right paper, and the table of least capitals where there is one."""
    alive = {state for state in study.states if any(True for _ in plain_rows(study, bet, state))}
    if study.watch.first not in alive:
        return "never", None
    for state in alive:
        for _, place, share_of in steps(study, bet, state):
            if share_of == 0 and (place == "lit" or place in alive):
                return "ruined", None
    for state in alive:
        if any(total < 1 for total in rings(study, bet, state)):
            return "ring", None
    return "capital", {state: min(total for _, total in plain_rows(study, bet, state)) for state in alive}


def walk(study, bet, row, state=None):
    """The place behind a row of possible signs from the state, with its capital; (None, None) for any other value."""
    place, total = state or study.watch.first, Fraction(1)
    if not isinstance(row, tuple):
        return None, None
    for sign in row:
        known = {one: (there, share_of) for one, there, share_of in steps(study, bet, place)} if place in study.states else {}
        if not isinstance(sign, str) or sign not in known:
            return None, None
        place, total = known[sign][0], total * known[sign][1]
    return place, total


def is_right(study, bet, paper):
    """Whether a Never, Ruined, Ring or Capital is as told, any values in its parts."""
    alive = {state for state in study.states if any(True for _ in plain_rows(study, bet, state))}
    if paper.word == "never":
        return study.watch.first not in alive
    if paper.word == "ruined":
        return walk(study, bet, paper.row) == ("lit", 0)
    if paper.word == "ring":
        place, total = walk(study, bet, paper.way)
        if place not in study.states or not total:
            return False
        back, around = walk(study, bet, paper.ring, place)
        end, left = walk(study, bet, paper.rest, place)
        return bool(paper.ring) and back == place and 0 < around < 1 and end == "lit" and left > 0
    table = paper.table
    if not isinstance(table, tuple) or not all(isinstance(pair, tuple) and len(pair) == 2 for pair in table):
        return False
    if not all(isinstance(key, str) for key, _ in table) or [key for key, _ in table] != sorted(alive):
        return False
    told = {key: number(value) for key, value in table}
    if any(value is None or value <= 0 for value in told.values()) or number(paper.number) is None:
        return False
    if walk(study, bet, paper.row) != ("lit", number(paper.number)) or told[study.watch.first] != number(paper.number):
        return False
    told["lit"] = Fraction(1)
    return all(told[state] <= share_of * told[place] for state in alive for _, place, share_of in steps(study, bet, state)
               if place in told)


def bet_word(words):
    """The word that is told for the text of a bet; None for a right one."""
    mark = words.index("*") if "*" in words else len(words)
    told = watch_word(words[:mark] or [""])
    if told is not None:
        return told
    groups, many = [[]], 0
    for word in words[:mark]:
        if word == "/":
            groups.append([])
        else:
            groups[-1].append(word)
    many = sum(len(group) - 3 for group in groups[[group[1:2] == [":"] for group in groups].index(False) + 1:])

    def begins(some):
        return all(word == "*" if at == mark else share(word) is not None for at, word in enumerate(some) if at >= mark) \
            and len(some) <= mark + 1 + many
    return first_bad_word(words, begins, lambda some: begins(some) and len(some) == mark + 1 + many)

"""What the document says of halls, told by one machine out of all studies, and by a list of standings."""

from fractions import Fraction

from peekproof.greatest import greatest
from peekproof.studies import Study
from tests.board_oracle import form, is_lit
from tests.study_oracle import moves, number


def lit_names(places):
    return [name for name, place in places.items() if place == "lit"]


def running(studies, places, stops):
    return [name for name, place in places.items() if place in studies[name].watch.states and name not in stops]


def most_lit(studies, board, places, stops, known=None):
    """The greatest chance that the board is ever lit, of one machine whose worlds choose which study is next; no rings."""
    known = {} if known is None else known
    key = tuple(places.values())
    if key not in known:
        best = Fraction(int(is_lit(board, lit_names(places))))
        for name in running(studies, places, stops):
            for move in moves(studies[name], places[name]):
                best = max(best, sum(chance * most_lit(studies, board, {**places, name: place}, stops, known) for chance, place in move))
        known[key] = best
    return known[key]


def least_lit(studies, board, places, stops, known=None):
    """The least chance, over worlds that go on until all that runs has ended; no rings."""
    known = {} if known is None else known
    key = tuple(places.values())
    if key not in known:
        left = running(studies, places, stops)
        means = [sum(chance * least_lit(studies, board, {**places, name: place}, stops, known) for chance, place in move)
                 for name in left for move in moves(studies[name], places[name])]
        known[key] = Fraction(int(is_lit(board, lit_names(places)))) if not left or is_lit(board, lit_names(places)) else min(means)
    return known[key]


class Model:
    """A hall as a list of standings: each one the places, the stops, the board and the steps."""

    def __init__(self, studies, board):
        self.studies = dict(studies)
        self.done = [({name: study.watch.first for name, study in studies}, (), board, ())]
        self.taken = []
        self.peak = self.fear()

    def now(self):
        return self.done[-1]

    def fear_of(self, standing):
        places, stops, board, _ = standing
        numbers = {}
        for name in board.names:
            place, study = places[name], self.studies[name]
            if place in study.watch.states and name not in stops:
                begun = Study(study.watch.begun(place), dict(study.crowds))
                numbers[name] = greatest(begun).number
            else:
                numbers[name] = int(place == "lit")
        return form(board, numbers)

    def fear(self):
        return self.fear_of(self.now())

    def do(self, standing):
        self.done.append(standing)
        self.taken = []
        self.peak = max(self.peak, self.fear())

    def behind(self, standing, name, sign):
        places, stops, board, steps = standing
        if sign is None:
            return places, (*stops, name), board, (*steps, (name, None))
        return {**places, name: self.studies[name].watch.place(places[name], sign)}, stops, board, (*steps, (name, sign))

    def step(self, name, sign):
        self.do(self.behind(self.now(), name, sign))

    def turn(self, board):
        places, stops, _, steps = self.now()
        self.do((places, stops, board, steps))

    def back(self):
        self.taken.append(self.done.pop())

    def again(self):
        self.done.append(self.taken.pop())

    def moments(self):
        _, _, board, steps = self.now()
        standing = ({name: study.watch.first for name, study in self.studies.items()}, (), board, ())
        fears = [self.fear_of(standing)]
        for name, sign in steps:
            standing = self.behind(standing, name, sign)
            fears.append(self.fear_of(standing))
        return fears

    def likely(self):
        places, total = {name: study.watch.first for name, study in self.studies.items()}, Fraction(1)
        for name, sign in self.now()[3]:
            if sign is not None:
                study = self.studies[name]
                at = list(study.watch.signs_of(places[name])).index(sign)
                total *= max(number(corner[at]) for corner in study.corners_of(places[name]))
                places[name] = study.watch.place(places[name], sign)
        return total

    def saved(self):
        return list(self.done), list(self.taken), self.peak

    def restore(self, saved):
        self.done, self.taken, self.peak = list(saved[0]), list(saved[1]), saved[2]

    def twin(self):
        other = Model.__new__(Model)
        other.studies = self.studies
        other.restore(self.saved())
        return other

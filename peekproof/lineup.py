"""What a hall is made of: its studies with their numbers, and the moments between its deeds."""

from peekproof.boards import form_of, refuse_no_board
from peekproof.checks import is_listed, is_name, is_one_of
from peekproof.costs import Costs
from peekproof.dearest import dearest
from peekproof.errors import BadHall, NoSign, NoStudy, Over, Refuted, TooMany, Unsure
from peekproof.greatest import greatest
from peekproof.labels import refuse_twice
from peekproof.least import least
from peekproof.ratios import Ratio
from peekproof.standings import LIT
from peekproof.stories import Story
from peekproof.studies import Study

_MOST_STUDIES = 60


class Solved:
    """A study with the numbers of its states; the least and the longest ones are found when they are first asked."""

    def __init__(self, study):
        self.study = study
        self.most = dict(greatest(study).table)
        self.fewest = None
        self.longest = None

    def least_at(self, state):
        """The least number of the study begun at the state; refuses one that is not sure."""
        if self.fewest is None:
            paper = least(self.study)
            self.fewest = dict(paper.table) if paper else {}
        if state not in self.fewest:
            paper = least(begun_at(self.study, state))
            if not paper:
                raise Unsure(paper)
            self.fewest = {**self.fewest, **dict(paper.table)}
        return self.fewest[state]

    def longest_at(self, state):
        """The greatest mean number of trials of the study begun at the state; None if it is endless."""
        if self.longest is None:
            paper = _dearest_trials(self.study)
            self.longest = dict(paper.heights) if paper else {}
        if state not in self.longest:
            paper = _dearest_trials(begun_at(self.study, state))
            if not paper:
                return None
            self.longest = {**self.longest, **dict(paper.heights)}
        return self.longest[state]


class Moment:
    """Where the studies stand, which of them were stopped, the board, the story so far and the fear."""

    def __init__(self, places, stops, claim, tale, risk):
        self.places = places
        self.stops = stops
        self.claim = claim
        self.tale = tale
        self.risk = risk


class Lineup:
    """The studies of a hall, by their names, with what leads from one moment to the next one."""

    def __init__(self, pairs):
        self.studies = {name: study for name, study in pairs}
        self.solved = {}
        different = []
        for name, study in pairs:
            # Equal studies have the same numbers, which are found once for all of them.
            known = [one for one in different if one.study == study]
            self.solved[name] = known[0] if known else Solved(study)
            if not known:
                different.append(self.solved[name])

    def study_at(self, name):
        """The study with this name."""
        if not is_one_of(name, self.studies):
            raise NoStudy(name)
        return self.studies[name]

    def begin(self, board):
        """The moment ahead of all deeds."""
        places = {name: study.watch.first for name, study in self.studies.items()}
        return Moment(places, (), board, Story(), self._fear_of(board, places, ()))

    def is_running(self, moment, name):
        """Whether the study with this name runs."""
        study = self.study_at(name)
        return moment.places[name] in study.watch and name not in moment.stops

    def after_sign(self, moment, name, sign):
        """The moment behind a trial that shows the sign."""
        self._refuse_over(moment, name)
        study = self.studies[name]
        state = moment.places[name]
        if not is_one_of(sign, study.watch.signs_of(state)):
            raise NoSign(sign)
        if sign not in study.crowd_of(state):
            raise Refuted(name, sign)
        places = {**moment.places, name: study.place(state, sign)}
        return self._behind(moment, name, places, moment.stops, moment.tale.then(name, sign))

    def after_stop(self, moment, name):
        """The moment behind a stop."""
        self._refuse_over(moment, name)
        return self._behind(moment, name, moment.places, (*moment.stops, name), moment.tale.then(name, None))

    def under(self, moment, board):
        """The moment with another board."""
        refuse_no_board(board, "other")
        self.refuse_other_names(board)
        return Moment(moment.places, moment.stops, board, moment.tale,
                      self._fear_of(board, moment.places, moment.stops))

    def walked(self, moment, steps):
        """The moments behind each of the steps."""
        moments = []
        for name, sign in steps:
            moment = self.after_stop(moment, name) if sign is None else self.after_sign(moment, name, sign)
            moments.append(moment)
        return moments

    def least_now(self, moment, name):
        """The least number now of the study with this name."""
        if self.is_running(moment, name):
            return self.solved[name].least_at(moment.places[name])
        return Ratio(int(moment.places[name] == LIT))

    def refuse_other_names(self, board):
        """Refuses a board that names no study here."""
        for name in board.names:
            self.study_at(name)

    def _refuse_over(self, moment, name):
        if not self.is_running(moment, name):
            raise Over(name)

    def _behind(self, moment, name, places, stops, tale):
        # What the board does not name changes no fear.
        risk = self._fear_of(moment.claim, places, stops) if name in moment.claim else moment.risk
        return Moment(places, stops, moment.claim, tale, risk)

    def _fear_of(self, board, places, stops):
        return form_of(board, {name: self._most_now(name, places[name], name in stops) for name in board.names})

    def _most_now(self, name, place, is_stopped):
        """The greatest number now."""
        if place not in self.studies[name].watch or is_stopped:
            return Ratio(int(place == LIT))
        return self.solved[name].most[place]


def lineup_of(studies, board):
    """The Lineup of these pairs; refuses what makes no hall with the board."""
    if not is_listed(studies) or not studies or not all([_is_named_study(pair) for pair in studies]):
        raise BadHall("studies")
    refuse_no_board(board, "board")
    names = [name for name, _ in studies]
    refuse_twice(names, ())
    for name in board.names:
        if name not in names:
            raise NoStudy(name)
    if len(names) > _MOST_STUDIES:
        raise TooMany("studies", _MOST_STUDIES)
    return Lineup(studies)


def begun_at(study, state):
    """The study with the same crowds over its watch begun at the state."""
    return Study(study.watch.begun(state), dict(study.crowds))


def _is_named_study(pair):
    return is_listed(pair) and len(pair) == 2 and is_name(pair[0]) and isinstance(pair[1], Study)


def _dearest_trials(study):
    """The Dearest or the Endless where each trial costs 1."""
    return dearest(study, Costs.each_trial(study.watch))

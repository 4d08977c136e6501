"""Halls: studies that run beside one another, and what their board has to fear at each moment."""

from peekproof.boards import form_of
from peekproof.checks import is_one_of
from peekproof.errors import Nothing
from peekproof.lineup import begun_at, lineup_of
from peekproof.moves import refuse_no_study
from peekproof.ratios import added, greatest_of, product_of
from peekproof.standings import LIT
from peekproof.stories import Story
from peekproof.tracks import chance_of_row
from peekproof.trials import Trial


class Standing:
    """The moments that a lineup has come through, the last one being now, those taken back, and the peak.

    It never changes: so a trial or a twin keeps a hall's standing, and with it all that can change in a hall.
    """

    def __init__(self, lineup, moments_done, taken, top):
        self.lineup = lineup
        self.moments_done = moments_done
        self.taken = taken
        self.top = top


class Hall:
    """A hall of these studies, pairs of a name and a study, with this board."""

    def __init__(self, studies, board):
        # A twin is made of the standing of its hall, so that nothing is solved again.
        self.standing = studies if isinstance(studies, Standing) else _first_standing(studies, board)
        self._lineup = self.standing.lineup

    def __len__(self):
        return len(self._lineup.studies)

    def __iter__(self):
        return iter(self._lineup.studies)

    def __contains__(self, value):
        return is_one_of(value, self._lineup.studies)

    def study_of(self, name):
        """The study with this name."""
        return self._lineup.study_at(name)

    def place(self, name):
        """The place at which the study stands."""
        self._lineup.study_at(name)
        return self._now().places[name]

    def runs(self, name):
        """Whether the study runs."""
        return self._lineup.is_running(self._now(), name)

    def choices(self, name):
        """The signs that are possible at its state; none if it is over."""
        return self.study_of(name).possible_of(self.place(name)) if self.runs(name) else ()

    @property
    def fear(self):
        """The form of the board at the greatest numbers now."""
        return self._now().risk

    @property
    def peak(self):
        """The greatest fear that the hall has had."""
        return self.standing.top

    @property
    def is_lit(self):
        """Whether the studies that stand at lit light the board."""
        places = self._now().places
        return self._now().claim.lights([name for name in places if places[name] == LIT])

    @property
    def story(self):
        """All trials and stops that stand."""
        return self._now().tale

    @property
    def board(self):
        """The board under which the hall goes on."""
        return self._now().claim

    @board.setter
    def board(self, other):
        self.change(other)

    def see(self, name, sign):
        """A trial shows the sign; returns the study's new place."""
        self._do([self._lineup.after_sign(self._now(), name, sign)])
        return self.place(name)

    def stop(self, name):
        """Stops the study for ever."""
        self._do([self._lineup.after_stop(self._now(), name)])

    def carry(self, *steps):
        """Does all the steps, or none if one is refused."""
        self._do(self._walked(steps))

    def change(self, other):
        """Goes on with another board."""
        self._do([self._lineup.under(self._now(), other)])

    def back(self):
        """Takes back the latest deed that still stands."""
        standing = self.standing
        if len(standing.moments_done) == 1:
            raise Nothing()
        taken = (*standing.taken, standing.moments_done[-1])
        self.standing = Standing(self._lineup, standing.moments_done[:-1], taken, standing.top)

    def again(self):
        """Does the deed once more that was taken back last."""
        standing = self.standing
        if not standing.taken:
            raise Nothing()
        done = (*standing.moments_done, standing.taken[-1])
        self.standing = Standing(self._lineup, done, standing.taken[:-1], standing.top)

    def hope(self):
        """The form of the board at the least numbers now; refuses where there is no hope."""
        moment = self._now()
        numbers = {name: self._lineup.least_now(moment, name) for name in self if name in moment.claim}
        return form_of(moment.claim, numbers)

    def lasting(self):
        """The greatest mean number of trials that all running studies can still have; None if it is endless."""
        moment = self._now()
        running = [name for name in self if self.runs(name)]
        numbers = [self._lineup.solved[name].longest_at(moment.places[name]) for name in running]
        return None if any([number is None for number in numbers]) else added(numbers)

    def likely(self):
        """The product of the greatest chances of the signs of the story."""
        story = self.story
        rows = {name: [sign for sign in story.signs_of(name) if sign is not None] for name in story.names}
        return product_of([chance_of_row(self.study_of(name), row) for name, row in rows.items()])

    def would(self, *steps):
        """The fear now and behind each of these steps, if they were done."""
        return tuple([moment.risk for moment in [self._now(), *self._walked(steps)]])

    def moments(self):
        """Yields the fears that the board would have had at the beginning of the story and behind each of its steps."""
        begin = self._lineup.begin(self.board)
        fears = [moment.risk for moment in [begin, *self._lineup.walked(begin, self.story.steps)]]
        for fear in fears:
            yield fear

    def twin(self):
        """A hall that is in all as this one."""
        return Hall(self.standing, self.board)

    def trial(self):
        """A new Trial, for a block of `with`."""
        return Trial(self)

    def tried(self, work):
        """What the work returns for a new Trial, within its block."""
        with self.trial() as trial:
            return work(trial)

    def _now(self):
        return self.standing.moments_done[-1]

    def _walked(self, steps):
        """The moments behind these steps, any values."""
        return self._lineup.walked(self._now(), Story(*steps).steps)

    def _do(self, moments):
        """Does deeds, which lead to these moments; nothing that was taken back can be done again behind one."""
        standing = self.standing
        if moments:
            top = greatest_of([standing.top, *[moment.risk for moment in moments]])
            self.standing = Standing(self._lineup, (*standing.moments_done, *moments), (), top)


def _first_standing(studies, board):
    """The standing of a new hall."""
    lineup = lineup_of(studies, board)
    moment = lineup.begin(board)
    return Standing(lineup, (moment,), (), moment.risk)


def begun(study, state):
    """The study with the same crowds over its watch begun at the state."""
    refuse_no_study(study)
    return begun_at(study, state)

"""Bets: a capital that each sign of a watch multiplies by a factor."""

from peekproof.checks import is_listed, is_one_of
from peekproof.errors import BadBet, BadLog, NoSign, NoStudy
from peekproof.greatest import is_purse
from peekproof.moves import refuse_no_study
from peekproof.ratios import Ratio, as_amounts, mean_of, means_compared, product_of
from peekproof.standings import LIT
from peekproof.watches import Watch, refuse_no_watch
from peekproof.words import Words

_MARK = "*"


class Bet:
    """A bet on this watch; at states that are left out all factors are 1."""

    def __init__(self, watch, factors):
        refuse_no_watch(watch, "watch")
        if not isinstance(factors, dict) or not all([state in watch for state in factors]):
            raise BadBet("factors")
        ones = {state: [1] * len(watch.signs_of(state)) for state in watch.states}
        lines = [(state, as_amounts(factors.get(state, ones[state]), len(ones[state]))) for state in watch.states]
        if any([line is None for _, line in lines]):
            raise BadBet("factors")
        self.watch = watch
        self.factors = tuple(lines)
        self._by_sign = {state: {sign: factor for sign, factor in zip(watch.signs_of(state), line)}
                         for state, line in lines}

    def factor(self, state, sign):
        """The factor of the sign at the state."""
        if not is_one_of(sign, self.watch.signs_of(state)):
            raise NoSign(sign)
        return self._by_sign[state][sign]

    def __call__(self, row):
        return product_of(self._factors_along(row))

    def along(self, row):
        """Yields the capitals behind none, one, two .. of the signs of the row."""
        factors = self._factors_along(row)
        capital = Ratio(1)
        yield capital
        for factor in factors:
            capital = capital * factor
            yield capital

    def __eq__(self, other):
        return isinstance(other, Bet) and self.watch == other.watch and self.factors == other.factors

    def __str__(self):
        return " ".join([str(self.watch), _MARK, *[str(factor) for _, line in self.factors for factor in line]])

    @staticmethod
    def read(text):
        """The bet with this text."""
        words = Words(text)
        many = len(words.before(_MARK))
        # A word that the watch misses has the index of the mark, which cannot stand there.
        watch = Watch.read(" ".join(words.before(_MARK)))
        words.skip(many)
        words.take_word(_MARK)
        factors = {state: [words.take_amount() for _ in watch.signs_of(state)] for state in watch.states}
        words.take_end()
        return Bet(watch, factors)

    def _factors_along(self, row):
        self.watch.after(row)
        factors = []
        place = self.watch.first
        for sign in row:
            factors.append(self._by_sign[place][sign])
            place = self.watch.place(place, sign)
        return factors


def fault(study, bet):
    """The first state and corner at which the mean of the factors is above 1, with this mean; None for a fair bet."""
    refuse_unfit_bet(study, bet)
    factors = dict(bet.factors)
    for state in study.states:
        corners = study.corners_of(state)
        for index, order in enumerate(means_compared(corners, factors[state], Ratio(1))):
            if order > 0:
                return state, index, mean_of(corners[index], factors[state])
    return None


def bet_of(study, table):
    """The bet of a purse."""
    if not is_purse(study, table):
        raise BadBet("table")
    worths = {end: Ratio(int(end == LIT)) for end in study.watch.ends}
    for state in study.states:
        worths[state] = Ratio.of(table[state])
    return Bet(study.watch, {state: [_factor_of(study, worths, state, sign) for sign in study.watch.signs_of(state)]
                             for state in study.states})


def together(log, **bets):
    """The product of the capitals of the bets, each behind its own signs in the log."""
    for name in sorted(bets):
        if not isinstance(bets[name], Bet):
            raise BadBet(name)
    if not is_listed(log) or not all([is_listed(pair) and len(pair) == 2 and isinstance(pair[0], str)
                                      for pair in log]):
        raise BadLog("log")
    for name, _ in log:
        if name not in bets:
            raise NoStudy(name)
    return product_of([_capital_behind(bets[name], name, log) for name in sorted(bets)])


def refuse_unfit_bet(study, bet):
    """Refuses any values that are not a study and a bet on its watch."""
    refuse_no_study(study)
    if not isinstance(bet, Bet):
        raise BadBet("bet")
    if bet.watch != study.watch:
        raise BadBet("watch")


def _factor_of(study, worths, state, sign):
    if worths[state].sign == 0 or sign not in study.crowd_of(state):
        return Ratio(0)
    return worths[study.place(state, sign)].over(worths[state])


def _capital_behind(bet, name, log):
    return bet([sign for told, sign in log if told == name])

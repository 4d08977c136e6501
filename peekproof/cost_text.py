"""The text of costs, read word by word."""

from peekproof.ratios import Ratio
from peekproof.words import Words


def read_costs(text, watch):
    """The dict from states of the watch to dicts from signs to costs above 0 that this text tells."""
    words = Words(text)
    if words.word_ahead() == "-":
        words.take_word("-")
        words.take_end()
        return {}
    table = {}
    later = watch.states
    while not table or words.word_ahead() is not None:
        if table:
            words.take_word(";")
        state, later = words.take_later(later)
        table[state] = _read_signs(words, watch.signs_of(state))
    return table


def _read_signs(words, signs):
    costs = {}
    later = signs
    while not costs or words.word_ahead() in later:
        sign, later = words.take_later(later)
        costs[sign] = words.take_above(Ratio(0))
    return costs

"""The text of a board, read word by word."""

from peekproof.checks import is_name
from peekproof.words import Words

_MOST_NAMES = 60
_MOST_WEIGHT = 200
_MOST_OPEN = 11
_MOST_ENOUGH = {"of": 60, "by": 200}


def read_board(text):
    """What this text tells: a name, or (word, what is enough, the branches likewise, their weights)."""
    words = Words(text)
    told = _read(words, [], 0)
    words.take_end()
    return told


def _read(words, names, opened):
    if words.word_ahead() == "(":
        if opened == _MOST_OPEN:
            words.refuse()
        words.take_word("(")
        return _read_branches(words, names, opened + 1)
    name = words.word_ahead()
    if not is_name(name) or name in names or len(names) == _MOST_NAMES:
        words.refuse()
    words.take_word(name)
    names.append(name)
    return name


def _read_branches(words, names, opened):
    word = words.take_one_of(("any", "all", "of", "by"))
    enough = words.take_count(_MOST_ENOUGH[word]) if word in _MOST_ENOUGH else 1
    branches = []
    weights = []
    while words.word_ahead() != ")":
        branches.append(_read(words, names, opened))
        weights.append(words.take_count(_MOST_WEIGHT - sum(weights)) if word == "by" else 1)
    if sum(weights) < enough:
        words.refuse()
    words.take_word(")")
    return word, enough, branches, weights

"""The lines of a desk, and the texts of the values that it keeps, read word by word."""

from peekproof.boards import Board
from peekproof.crowds import Crowd
from peekproof.errors import BadText, Nothing
from peekproof.gates import Gates
from peekproof.stories import Story
from peekproof.studies import Study
from peekproof.tables import Table
from peekproof.watches import Watch
from peekproof.words import Words

CLASSES = ("crowd", "table", "watch", "study", "board", "story", "gates")

# For each first word what follows it, and what follows this once or more; what is new stands but once in its place.
_LINES = {
    "keep": ("name class text", ""),
    "drop": ("name", ""),
    "study": ("name name", "new-label name"),
    "nest": ("name name", "new-label name"),
    "flat": ("name name", "new-label name"),
    "misread": ("name name name", ""),
    "lose": ("name name count", ""),
    "repeat": ("name name count", ""),
    "delay": ("name name count", ""),
    "open": ("name", "new-name name"),
    "see": ("name label", ""),
    "stop": ("name", ""),
    "back": ("", ""),
    "again": ("", ""),
    "turn": ("name", ""),
    "names": ("", ""),
    "show": ("name", ""),
    "after": ("name", "label"),
    "sure": ("name", ""),
    "greatest": ("name", ""),
    "worth": ("name", "new-label ratio"),
    "least": ("name", ""),
    "dearest": ("name", ""),
    "soonest": ("name", ""),
    "shape": ("name", ""),
    "form": ("name", "new-name ratio"),
    "worst": ("name", "new-name ratio"),
    "tied": ("count", "new-name ratio"),
    "within": ("name name", ""),
    "lead": ("name name", "new-label name"),
    "fear": ("", ""),
    "peak": ("", ""),
    "hope": ("", ""),
    "likely": ("", ""),
    "story": ("", ""),
    "lasting": ("", ""),
    "lit": ("", ""),
    "place": ("name", ""),
    "choices": ("name", ""),
    "would": ("", "name sign-or-stop"),
}


def value_of(word, text):
    """The value of the class with this word that has this text."""
    if word == "crowd":
        return Crowd.read(text)
    if word == "table":
        return Table.read(text)
    if word == "watch":
        return Watch.read(text)
    if word == "study":
        return Study.read(text)
    if word == "board":
        return Board.read(text)
    if word == "story":
        return Story.read(text)
    if word == "gates":
        return Gates.read(text)
    raise Nothing()


def word_of(value):
    """The word of the class of which any value is; None if there is none."""
    if isinstance(value, Crowd):
        return "crowd"
    if isinstance(value, Table):
        return "table"
    if isinstance(value, Watch):
        return "watch"
    if isinstance(value, Study):
        return "study"
    if isinstance(value, Board):
        return "board"
    if isinstance(value, Story):
        return "story"
    return "gates" if isinstance(value, Gates) else None


def read_line(line):
    """The tuple of the words of a line, a text at its end as one string."""
    words = Words(line)
    told = [words.take_one_of(list(_LINES))]
    head, tail = _LINES[told[0]]
    for kind in head.split(" ") if head else []:
        told.append(_take_text(words, told[-1]) if kind == "text" else _take(words, kind, ()))
    if tail:
        told = [*told, *_take_tail(words, tail.split(" "))]
    words.take_end()
    return tuple(told)


def _take_text(words, word):
    """The rest of the line, the text of a value of the class with this word."""
    text = " ".join(words.to_come())
    try:
        value_of(word, text)
    except BadText as refused:
        raise BadText(0, words.here + refused.word)
    words.skip(len(words.to_come()))
    return text


def _take_tail(words, kinds):
    """The words up to the end of the line: these kinds once or more."""
    told = []
    taken = []
    while not taken or words.word_ahead() is not None:
        taken.append(_take(words, kinds[0], taken))
        told = [*told, taken[-1], *[_take(words, kind, ()) for kind in kinds[1:]]]
    return told


def _take(words, kind, taken):
    """The word that is next, which must be of this kind, and none of those that are taken if it is to be new."""
    word = words.word_ahead()
    if kind in ("name", "new-name"):
        words.take_name(taken if kind == "new-name" else ())
    elif kind in ("label", "new-label"):
        words.take_label(taken if kind == "new-label" else ())
    elif kind == "class":
        words.take_one_of(CLASSES)
    elif kind == "count":
        words.take_integer()
    elif kind == "ratio":
        words.take_ratio()
    else:
        words.take_sign_or_stop()
    return word

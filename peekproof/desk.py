"""Desks: values under names and a hall, told line by line."""

from peekproof.ask_lines import ASKS
from peekproof.bench import Bench
from peekproof.checks import is_one_of
from peekproof.deed_lines import DEEDS
from peekproof.errors import BadLine, BadText, Nothing, PeekError
from peekproof.reader import read_line


class Desk:
    """A desk that keeps nothing and has no hall yet."""

    def __init__(self):
        self._bench = Bench({}, None, ())

    def told(self, *lines):
        """The answers to the lines, which are done in order; if one raises an error nothing is done."""
        bench = self._bench.copied()
        answers = _answers_on(bench, lines)
        self._bench = bench
        return answers

    def __call__(self, line):
        return self.told(line)[0]

    def tried(self, *lines):
        """The answers to the lines, as if they were told; the desk stays as it is."""
        return _answers_on(self._bench.copied(), lines)

    @property
    def deeds(self):
        """All deed lines done, in order."""
        return self._bench.lines

    def value_of(self, name):
        """The value under the name."""
        if name not in self:
            raise Nothing()
        return self._bench.value_at(name)

    def __contains__(self, name):
        return is_one_of(name, self._bench.held)

    def __len__(self):
        return len(self._bench.held)

    def __iter__(self):
        return iter(self._bench.held)

    def __eq__(self, other):
        if not isinstance(other, Desk) or self._bench.held != other._bench.held:
            return False
        return _are_like_halls(self._bench.hall, other._bench.hall)


def _answers_on(bench, lines):
    """The answers to the lines, all of which are read first, and then done on the bench."""
    told = [_read_as(at, line) for at, line in enumerate(lines)]
    answers = []
    for at, words in enumerate(told):
        try:
            answers.append(_answer_on(bench, words))
        except PeekError as error:
            raise BadLine(at, error) from error
    return tuple(answers)


def _read_as(at, line):
    try:
        words = read_line(line)
    except BadText as refused:
        raise BadText(at, refused.word)
    return words


def _answer_on(bench, words):
    if words[0] in ASKS:
        ask = ASKS[words[0]]
        return ask(bench, words)
    do = DEEDS[words[0]]
    answer = do(bench, words)
    bench.lines = (*bench.lines, " ".join(words))
    return answer


def _are_like_halls(one, other):
    """Whether there is none on both sides, or both have the same studies, places, board, story and peak."""
    if one is None or other is None:
        return one is None and other is None
    if list(one) != list(other) or one.board != other.board or one.story != other.story or one.peak != other.peak:
        return False
    return all([one.study_of(name) == other.study_of(name) and one.place(name) == other.place(name) for name in one])

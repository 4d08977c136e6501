"""The words of a text, read one behind the other up to the first one that cannot stand."""

from peekproof.checks import is_label, is_name
from peekproof.errors import BadText
from peekproof.ratios import Ratio, ratio_of_word


class Words:
    """Reads the words of one text; whatever cannot stand where it reads is refused."""

    def __init__(self, text):
        if not isinstance(text, str):
            raise BadText(0, 0)
        self.words = text.split(" ")
        self.here = 0

    def word_ahead(self, by=0):
        """The word that is read next, or so many behind it; None behind the last one."""
        at = self.here + by
        return self.words[at] if at < len(self.words) else None

    def before(self, mark):
        """All words of the text ahead of the first such mark."""
        return self.words[:self.words.index(mark)] if mark in self.words else self.words

    def to_come(self):
        """All words that are not read yet."""
        return self.words[self.here:]

    def skip(self, many):
        """Goes on behind so many words."""
        self.here += many

    def take_end(self):
        """Nothing more must stand here."""
        if self.word_ahead() is not None:
            self.refuse()

    def refuse(self):
        """The word that would be read next cannot stand, or is missing."""
        raise BadText(0, self.here)

    def take_word(self, word):
        """Just this word must stand here."""
        if self.word_ahead() != word:
            self.refuse()
        self.here += 1

    def take_label(self, taken):
        """A label must stand here that is none of those that are taken."""
        word = self.word_ahead()
        if not is_label(word) or word in taken:
            self.refuse()
        self.here += 1
        return word

    def take_name(self, taken):
        """A name must stand here that is none of those that are taken."""
        word = self.word_ahead()
        if not is_name(word) or word in taken:
            self.refuse()
        self.here += 1
        return word

    def take_sign_or_stop(self):
        """A label must stand here, or a dash, which is told as None."""
        word = self.word_ahead()
        if word != "-" and not is_label(word):
            self.refuse()
        self.here += 1
        return None if word == "-" else word

    def take_one_of(self, known):
        """One of these words must stand here."""
        word = self.word_ahead()
        if word not in known:
            self.refuse()
        self.here += 1
        return word

    def take_later(self, labels):
        """One of these labels must stand here; those behind it are told with it."""
        word = self.take_one_of(labels)
        return word, labels[[at for at, label in enumerate(labels) if label == word][0] + 1:]

    def take_labels(self, most, mark):
        """From one to so many different labels, and the mark behind them."""
        labels = []
        while not labels or self.word_ahead() != mark:
            if len(labels) == most:
                self.refuse()
            labels.append(self.take_label(labels))
        self.take_word(mark)
        return labels

    def take_share(self, total, is_last):
        """A chance must stand here that leads the total to at most 1, and to 1 if it is the last one."""
        share = self._ratio_ahead()
        if share.sign < 0:
            self.refuse()
        order = (total + share).compared(1)
        if order > 0 or (is_last and order < 0):
            self.refuse()
        self.here += 1
        return share

    def take_ratio(self):
        """A ratio must stand here."""
        ratio = self._ratio_ahead()
        self.here += 1
        return ratio

    def take_amount(self):
        """A ratio from 0 on must stand here."""
        if self._ratio_ahead().sign < 0:
            self.refuse()
        return self.take_ratio()

    def take_above(self, least):
        """A ratio above this one must stand here."""
        if not least.is_below(self._ratio_ahead()):
            self.refuse()
        return self.take_ratio()

    def take_integer(self):
        """An integer from 0 on must stand here."""
        if not self._ratio_ahead().is_whole:
            self.refuse()
        return self.take_amount().top

    def take_count(self, most):
        """An integer from 1 to this one must stand here."""
        count = self._ratio_ahead()
        if not count.is_whole or not 1 <= count.top <= most:
            self.refuse()
        return self.take_ratio().top

    def _ratio_ahead(self):
        word = self.word_ahead()
        ratio = None if word is None else ratio_of_word(word)
        if ratio is None:
            self.refuse()
        return ratio


def read_parts(text, mark, most_parts, most_labels, has_sources):
    """The sources (if parts begin with one), labels and rows of chances of a text with the mark between its parts."""
    words = Words(text)
    sources = []
    labels = []
    lines = []
    while not lines or words.word_ahead() is not None:
        if lines:
            if len(lines) == most_parts:
                words.refuse()
            words.take_word(mark)
        if has_sources:
            sources.append(words.take_label(sources))
        if lines:
            lines.append(_later_part(words, labels))
        else:
            labels, chances = _first_part(words, mark, most_labels)
            lines.append(chances)
    return sources, labels, lines


def _first_part(words, mark, most_labels):
    labels = []
    chances = []
    total = Ratio(0)
    while not (total == 1 and words.word_ahead() in (None, mark)):
        if len(labels) == most_labels:
            words.refuse()
        labels.append(words.take_label(labels))
        chances.append(words.take_share(total, len(labels) == most_labels))
        total = total + chances[-1]
    return labels, chances


def _later_part(words, labels):
    chances = []
    total = Ratio(0)
    for at, label in enumerate(labels):
        words.take_word(label)
        chances.append(words.take_share(total, at + 1 == len(labels)))
        total = total + chances[-1]
    return chances

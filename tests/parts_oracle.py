"""What the document says of the texts of tables and crowds, told by beginnings and whole texts."""

from fractions import Fraction
from math import gcd
import re


def is_label(word):
    names = word.split(".")
    return len(names) <= 6 and all(re.fullmatch("[a-z][a-z0-9]{0,11}", name) for name in names)


def share(word):
    """The fraction from 0 on that is written so, or None."""
    found = re.fullmatch("(0|[1-9][0-9]{0,59})(?:/([1-9][0-9]{0,59}))?", word)
    if not found:
        return None
    if found[2] is None:
        return Fraction(int(found[1]))
    top, bottom = int(found[1]), int(found[2])
    return Fraction(top, bottom) if bottom > 1 and top and gcd(top, bottom) == 1 else None


class Parts:
    """The oracle for texts with this mark, this many parts, with sources or without."""

    def __init__(self, mark, most, sources):
        self.mark, self.most, self.sources = mark, most, sources

    def split(self, words):
        groups = [[]]
        for word in words:
            if word == self.mark:
                groups.append([])
            else:
                groups[-1].append(word)
        return groups

    def fits(self, words, whole):
        groups = self.split(words)
        if len(groups) > self.most:
            return False
        seen, labels = [], None
        for at, group in enumerate(groups):
            is_last = at == len(groups) - 1
            if self.sources:
                if group and (not is_label(group[0]) or group[0] in seen):
                    return False
                if not group:
                    return is_last and not whole
                seen.append(group[0])
                group = group[1:]
            if not self.group_fits(group, labels, whole or not is_last):
                return False
            labels = labels or group[::2]
        return True

    def group_fits(self, group, labels, whole):
        found, chances = group[::2], [share(word) for word in group[1::2]]
        if None in chances or sum(chances) > 1:
            return False
        if labels is None:
            if len(set(found)) < len(found) or len(found) > 12 or not all(is_label(word) for word in found):
                return False
            if len(chances) == 12 and sum(chances) < 1:
                return False
            return not whole or (len(found) == len(chances) and sum(chances) == 1)
        if found != labels[:len(found)] or (len(chances) == len(labels) and sum(chances) < 1):
            return False
        return not whole or len(chances) == len(labels)

    def can_begin(self, words):
        return self.fits(words, False)

    def is_whole(self, words):
        return self.fits(words, True)

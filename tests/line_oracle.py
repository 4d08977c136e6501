"""What the document says of the lines of a desk, told by beginnings and whole lines; and drawn lines."""

import re

from peekproof.errors import BadText
from peekproof.reader import value_of
from tests.parts_oracle import is_label, share
from tests.support import first_bad_word

CLASSES = ("crowd", "table", "watch", "study", "board", "story", "gates")
# The tables of the document: what stands behind the first word, and what stands there once or more.
TABLE = """
drop NAME
study NAME WATCH | ARM CROWD
nest NAME STUDY | ARM INNER
flat NAME STUDY | ARM INNER
misread NAME STUDY TABLE
lose NAME STUDY N
repeat NAME STUDY N
delay NAME STUDY N
open BOARD | NAME STUDY
see NAME SIGN
stop NAME
back
again
turn BOARD
names
show NAME
after WATCH | SIGN
sure STUDY
greatest STUDY
worth STUDY | END RATIO
least STUDY
dearest STUDY
soonest STUDY
shape STUDY
form BOARD | NAME RATIO
worst BOARD | NAME RATIO
tied N | NAME RATIO
within WATCH OTHER
lead WATCH OTHER | ARM CROWD
fear
peak
hope
likely
story
lasting
lit
place NAME
choices NAME
would | STEP
"""
LINES = {line.split(" ")[0]: line.replace("STEP", "STUDY SIGNORSTOP").split(" ")[1:] for line in TABLE.strip().splitlines()}
LABELS = ("SIGN", "ARM", "END")


def is_name(word):
    return bool(re.fullmatch("[a-z][a-z0-9]{0,11}", word))


def is_kind(kind, word):
    if kind == "N":
        return bool(re.fullmatch("0|[1-9][0-9]{0,59}", word))
    if kind == "RATIO":
        plain = word[1:] if word[:1] == "-" else word
        return share(plain) is not None and word != "-0"
    if kind == "SIGNORSTOP":
        return word == "-" or is_label(word)
    return is_label(word) if kind in LABELS else is_name(word)


def fits(words, whole):
    """Whether these words can begin a line that keeps no value, or are a whole one."""
    if not words:
        return not whole
    if words[0] not in LINES:
        return False
    kinds = LINES[words[0]]
    mark = kinds.index("|") if "|" in kinds else len(kinds)
    head, tail, rest = kinds[:mark], kinds[mark + 1:], words[1:]
    if not all(is_kind(kind, word) for kind, word in zip(head, rest)):
        return False
    if len(rest) < len(head):
        return not whole
    rest = rest[len(head):]
    if not tail:
        return not rest
    seen = []
    for at, word in enumerate(rest):
        kind = tail[at % len(tail)]
        if not is_kind(kind, word):
            return False
        if kind in ("NAME", "ARM", "END") and at % len(tail) == 0:
            if word in seen:
                return False
            seen.append(word)
    return not whole or (bool(rest) and len(rest) % len(tail) == 0)


def line_word(line):
    """The word that is told for a line; None for a right one."""
    words = line.split(" ")
    if words[0] != "keep":
        return first_bad_word(words, lambda some: fits(some, False), lambda some: fits(some, True))
    if len(words) < 2 or not is_name(words[1]):
        return 1
    if len(words) < 3 or words[2] not in CLASSES:
        return 2
    try:
        value_of(words[2], " ".join(words[3:]))
    except BadText as error:
        return 3 + error.word
    return None


def drawn_word(rng, kind):
    if kind == "N":
        return str(rng.choice([0, 1, 2, 3, 12]))
    if kind == "RATIO":
        return rng.choice(["0", "1", "1/2", "-1/3", "7/2", "2"])
    if kind == "SIGNORSTOP":
        return rng.choice(["-", "hit", "a.b"])
    if kind in LABELS:
        return rng.choice(["hit", "a.b", "coin", "lit", "x", "y"])
    return rng.choice(["x", "y", "z", "fair", "two", "any", "drop", "n1"])


def drawn_line(rng):
    """A line of the tables, or nearly one: names can stand twice in pairs."""
    first = rng.choice(sorted(LINES))
    kinds = LINES[first]
    mark = kinds.index("|") if "|" in kinds else len(kinds)
    words = [first, *[drawn_word(rng, kind) for kind in kinds[:mark]]]
    for _ in range(rng.randint(1, 3) if kinds[mark + 1:] else 0):
        words += [drawn_word(rng, kind) for kind in kinds[mark + 1:]]
    return " ".join(words)

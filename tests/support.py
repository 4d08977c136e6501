"""What several tests use: drawn values, values of any kind, and bent texts."""

import random
import unittest

from peekproof.crowds import Crowd
from peekproof.errors import BadText
from peekproof.ratios import Ratio
from peekproof.studies import Study
from peekproof.watches import Watch


class Strange:
    """An object of no class of the package."""


ANY_VALUES = (None, True, False, 0, 1, -1, 1.5, "", "x", "a b", (), [], {}, [1], (None,), {"x": 1}, {1, 2}, b"x",
              [[]], [[[]]], Strange(), Strange, len, Ratio(1, 2), float("nan"))


NO_TEXTS = [value for value in ANY_VALUES if not isinstance(value, str)]


class Case(unittest.TestCase):
    def refused(self, error, fields, call, *arguments, **named):
        """The call raises just this error with just these fields."""
        with self.assertRaises(error) as caught:
            call(*arguments, **named)
        self.assertIs(caught.exception.__class__, error)
        self.assertEqual(vars(caught.exception), fields)

    def refused_text(self, word, call, text):
        self.refused(BadText, {"line": 0, "word": word}, call, text)

    def all_ratios(self, values):
        """Each of the values is a Ratio, not an integer."""
        for value in values:
            self.assertIsInstance(value, Ratio)


def drawn_chances(rng, many, most=4):
    shares = [rng.randint(0, most) for _ in range(many)]
    if not sum(shares):
        shares[rng.randrange(many)] = 1
    return [Ratio(share, sum(shares)) for share in shares]


def drawn_crowd(rng, signs, corners, most=4):
    return Crowd(signs, [drawn_chances(rng, len(signs), most) for _ in range(corners)])


def drawn_watch(rng, states, arms, ends=("lit", "dark")):
    """A watch of so many states over some of these arms, a dict from arms to signs; places are drawn."""
    labels = [f"q{at}" for at in range(states)]
    asked = [rng.choice(sorted(arms)) for _ in labels]
    lines = [(label, arm, [rng.choice(labels + list(ends) * 2) for _ in arms[arm]])
             for label, arm in zip(labels, asked)]
    return Watch({arm: arms[arm] for arm in asked}, ends, lines)


def drawn_study(rng, states, corners=3, arms=None, ends=("lit", "dark"), most=3):
    arms = arms or {"coin": ("hit", "miss"), "die": ("a", "b", "c")}
    watch = drawn_watch(rng, states, arms, ends)
    return Study(watch, {arm: drawn_crowd(rng, signs, rng.randint(1, corners), most) for arm, signs in watch.arms})


def bent(rng, text, words):
    """A text with a word or a character changed, left out, put in, doubled, or moved."""
    parts = text.split(" ")
    at = rng.randrange(len(parts))
    way = rng.randrange(8)
    if way == 0:
        parts[at] = rng.choice(words)
    elif way == 1:
        del parts[at]
    elif way == 2:
        parts.insert(at, rng.choice(words))
    elif way == 3:
        parts.insert(at, parts[at])
    elif way == 4:
        parts = parts[:at]
    elif way == 5:
        other = rng.randrange(len(parts))
        parts[at], parts[other] = parts[other], parts[at]
    else:
        letters = list(" ".join(parts)) or [" "]
        spot = rng.randrange(len(letters))
        if way == 6:
            letters[spot:spot + 1] = rng.choice(["", " ", "0", "1", "a", ".", "/", "|", ":", letters[spot] * 2])
        else:
            letters.insert(spot, rng.choice([" ", "0", "1", "a", ".", "/", "-"]))
        return "".join(letters)
    return " ".join(parts)


def first_bad_word(words, can_begin, is_whole):
    """The index that an oracle of beginnings and whole texts tells; None for a whole text."""
    for at in range(len(words)):
        if not can_begin(words[:at + 1]):
            return at
    return None if is_whole(words) else len(words)


def rng_of(seed):
    return random.Random(seed)

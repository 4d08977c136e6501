"""The text of a watch, read word by word."""

from peekproof.errors import BadText
from peekproof.standings import LIT
from peekproof.words import Words

_MOST_SIGNS = 12
_MOST_ENDS = 9


def read_watch(text, most):
    """The arms, ends and states of the watch of at most so many states that has this text."""
    words = Words(text)
    arms = _read_arms(words)
    ends = words.take_labels(_MOST_ENDS, "/")
    states, starts = _read_states(words, arms, ends, most)
    known = {label: True for label in [*ends, *[state for state, _, _ in states]]}
    for line, start in zip(states, starts):
        for at, place in enumerate(line[2]):
            if place not in known:
                raise BadText(0, start + at)
    if _next_arm(arms, states) is not None:
        words.refuse()
    return arms, ends, states


def _read_arms(words):
    arms = {}
    while not arms or words.word_ahead(1) == ":":
        arm = words.take_label([])
        if arm in arms:
            words.refuse()
        words.take_word(":")
        arms[arm] = words.take_labels(_MOST_SIGNS, "/")
    return arms


def _read_states(words, arms, ends, most):
    """The lines (state, arm, places), and for each one the index of the word that is its first place."""
    states = []
    starts = []
    while not states or words.word_ahead() is not None:
        if states:
            if len(states) == most:
                words.refuse()
            words.take_word("/")
        state = words.take_label([LIT, *ends, *[line[0] for line in states]])
        arm = _take_arm(words, arms, states)
        words.take_word(":")
        starts.append(words.here)
        states.append((state, arm, [words.take_label([]) for _ in arms[arm]]))
    return states, starts


def _take_arm(words, arms, states):
    arm = words.word_ahead()
    if arm is None or (arm not in [line[1] for line in states] and arm != _next_arm(arms, states)):
        words.refuse()
    words.take_word(arm)
    return arm


def _next_arm(arms, states):
    """The first arm that no state asks, None if each one is asked."""
    asked = {arm: True for _, arm, _ in states}
    for arm in arms:
        if arm not in asked:
            return arm
    return None

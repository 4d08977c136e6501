"""Papers: what tells an answer and shows it."""

from peekproof.checks import is_integer
from peekproof.errors import NoState


def fixed(value):
    """The value with tuples in the place of its lists, and of its dicts, all the way in."""
    if isinstance(value, dict):
        return tuple([(key, fixed(value[key])) for key in sorted(value)])
    if isinstance(value, (list, tuple)):
        return tuple([fixed(item) for item in value])
    return value


class Paper:
    """A paper with this word and these parts."""

    def __init__(self, word, *parts):
        self.word = word
        self.parts = fixed(parts)

    def __eq__(self, other):
        return isinstance(other, Paper) and self.word == other.word and self.parts == other.parts

    def __bool__(self):
        return True


class Denial(Paper):
    """A paper that says no."""

    def __init__(self, word, *parts):
        super().__init__(word, *parts)

    def __bool__(self):
        return False


def is_table(value):
    """Whether it is the tuple that `fixed` makes of a dict: of pairs, ascending by keys all strings or all integers."""
    if not isinstance(value, tuple) or not all([isinstance(pair, tuple) and len(pair) == 2 for pair in value]):
        return False
    keys = [pair[0] for pair in value]
    if not all([isinstance(key, str) for key in keys]) and not all([is_integer(key) for key in keys]):
        return False
    return all([keys[at] < keys[at + 1] for at in range(len(keys) - 1)])


def told_at(table, state):
    """What a part that was told as a dict tells of the state; NoState for any value of which it tells nothing."""
    pairs = table if isinstance(table, tuple) and _is_key(state) else ()
    for pair in pairs:
        if isinstance(pair, tuple) and len(pair) == 2 and _is_key(pair[0]) and pair[0] == state:
            return pair[1]
    raise NoState(state)


def _is_key(value):
    return isinstance(value, str) or is_integer(value)

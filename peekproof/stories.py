"""Stories: trials and stops of studies, in order."""

from peekproof.checks import is_label, is_listed, is_name
from peekproof.errors import BadStory, TooMany
from peekproof.words import Words

_NONE = "-"


class Story:
    """A story of these steps, each a name and a sign, or None for a stop."""

    MOST = 200

    def __init__(self, *steps):
        if not all([_is_step(step) for step in steps]):
            raise BadStory("steps")
        if len(steps) > Story.MOST:
            raise TooMany("steps", Story.MOST)
        self.steps = tuple([(name, sign) for name, sign in steps])
        self.names = tuple({name: True for name, _ in steps})

    def __len__(self):
        return len(self.steps)

    def __iter__(self):
        return iter(self.steps)

    def __contains__(self, value):
        return is_listed(value) and tuple(value) in self.steps

    def __eq__(self, other):
        return isinstance(other, Story) and self.steps == other.steps

    def signs_of(self, name):
        """The signs of the steps with this name, None for a stop, in order."""
        return tuple([sign for other, sign in self.steps if other == name])

    def then(self, name, sign):
        """The story with one step more."""
        steps = [*self.steps, (name, sign)]
        return Story(*steps)

    def __str__(self):
        return " ".join(_words_of(self.steps))

    @staticmethod
    def read(text):
        """The story with this text."""
        words = Words(text)
        if words.word_ahead() == _NONE:
            words.take_word(_NONE)
            words.take_end()
            return Story()
        steps = []
        while not steps or words.word_ahead() is not None:
            if len(steps) == Story.MOST:
                words.refuse()
            steps.append((words.take_name(()), words.take_sign_or_stop()))
        return Story(*steps)


def _is_step(step):
    if not is_listed(step) or len(step) != 2 or not is_name(step[0]):
        return False
    return step[1] is None or is_label(step[1])


def _words_of(steps):
    """The words of these steps; a dash if there is none."""
    words = [word for name, sign in steps for word in (name, _NONE if sign is None else sign)]
    return words if words else [_NONE]

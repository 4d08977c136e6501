"""Ready watches, and the cut of a watch. A machine here stands at what its states keep."""

from peekproof.checks import are_labels, is_label, is_listed, is_one_of, is_within
from peekproof.errors import BadNumbers, BadWatch, TooMany, Twice
from peekproof.standings import DARK, LIT, arms_of, explored
from peekproof.watches import Watch, refuse_no_watch

_MOST_ENDS = 9


class OneArm:
    """A machine whose states all ask one arm; a hit is the first of its signs, a miss the second."""

    def __init__(self, start, signs, arm):
        self.start = start
        self.signs = tuple(signs)
        self.arm = arm

    def arm_at(self, kept):
        """The arm that a state asks."""
        return self.arm

    def signs_at(self, kept):
        """The signs of this arm."""
        return self.signs

    def is_hit(self, sign):
        """Whether the sign is a hit."""
        return sign == self.signs[0]

    def step_of(self, sign):
        """How the level changes with this sign."""
        if self.is_hit(sign):
            return 1
        return -1 if sign == self.signs[1] else 0


class HitRun(OneArm):
    """Keeps how many hits there are since the last other sign, or in all."""

    def __init__(self, many, keeps_all, signs, arm):
        super().__init__(0, signs, arm)
        self.many = many
        self.keeps_all = keeps_all

    def moved(self, kept, sign):
        """What is kept behind the sign, or the end."""
        if not self.is_hit(sign):
            return kept if self.keeps_all else 0
        return LIT if kept + 1 == self.many else kept + 1


class HitWindow(OneArm):
    """Keeps of each of the last signs that still count whether it is a hit."""

    def __init__(self, window, many, signs, arm):
        super().__init__((), signs, arm)
        self.window = window
        self.many = many

    def moved(self, kept, sign):
        """What is kept behind the sign, or the end."""
        shown = (*kept, self.is_hit(sign))
        if sum(shown) >= self.many:
            return LIT
        return shown[1:] if len(shown) == self.window else shown


class RowFinder(OneArm):
    """Keeps how long the longest beginning of the row is that the signs shown end with."""

    def __init__(self, row, signs, arm):
        super().__init__(0, signs, arm)
        self.row = list(row)

    def moved(self, kept, sign):
        """What is kept behind the sign, or the end."""
        shown = [*self.row[:kept], sign]
        while shown != self.row[:len(shown)]:
            shown = shown[1:]
        return LIT if len(shown) == len(self.row) else len(shown)


class LevelRace(OneArm):
    """Keeps the level."""

    def __init__(self, up, down, signs, arm):
        super().__init__(0, signs, arm)
        self.up = up
        self.down = down

    def moved(self, kept, sign):
        """What is kept behind the sign, or the end."""
        level = kept + self.step_of(sign)
        if level == self.up:
            return LIT
        return DARK if level == -self.down else level


class LevelLooks(OneArm):
    """Keeps how many signs were shown, and the level."""

    def __init__(self, by, looks, last, signs, arm):
        super().__init__((0, 0), signs, arm)
        self.by = by
        self.looks = looks
        self.last = last

    def moved(self, kept, sign):
        """What is kept behind the sign, or the end."""
        shown, level = kept[0] + 1, kept[1] + self.step_of(sign)
        if shown in self.looks and level >= self.by:
            return LIT
        return DARK if shown == self.last else (shown, level)


class CutWatch:
    """Keeps how many signs were shown, and the state of the watch."""

    def __init__(self, watch, last, dark):
        self.watch = watch
        self.last = last
        self.dark = dark
        self.start = (0, watch.first)

    def arm_at(self, kept):
        """The arm that a state asks."""
        return self.watch.arm_of(kept[1])

    def signs_at(self, kept):
        """The signs of this arm."""
        return self.watch.signs_of(kept[1])

    def moved(self, kept, sign):
        """What is kept behind the sign, or the end."""
        place = self.watch.place(kept[1], sign)
        if place not in self.watch:
            return place
        return self.dark if kept[0] + 1 == self.last else (kept[0] + 1, place)


def in_a_row(many, *, signs=("hit", "miss"), arm="trial"):
    """The watch that is lit as soon as the last many signs are hits."""
    _refuse_unless_within(many, 60, "many")
    _refuse_bad_arm(signs, arm)
    return _made_of(HitRun(many, False, signs, arm), (LIT,))


def in_all(many, *, signs=("hit", "miss"), arm="trial"):
    """The watch that is lit as soon as many hits have been shown."""
    _refuse_unless_within(many, 60, "many")
    _refuse_bad_arm(signs, arm)
    return _made_of(HitRun(many, True, signs, arm), (LIT,))


def of_last(window, many, *, signs=("hit", "miss"), arm="trial"):
    """The watch that is lit as soon as many of the last window signs are hits."""
    _refuse_unless_within(window, 6, "window")
    _refuse_unless_within(many, window, "many")
    _refuse_bad_arm(signs, arm)
    return _made_of(HitWindow(window, many, signs, arm), (LIT,))


def spotted(row, *, signs=("hit", "miss"), arm="trial"):
    """The watch that is lit as soon as the last signs are the row."""
    _refuse_bad_signs(signs)
    if not is_listed(row) or not 1 <= len(row) <= 20 or not all([is_one_of(sign, signs) for sign in row]):
        raise BadWatch("row")
    _refuse_bad_arm(signs, arm)
    return _made_of(RowFinder(row, signs, arm), (LIT,))


def sooner(up, down, *, signs=("hit", "miss"), arm="trial"):
    """The watch that is lit as soon as the level is up, and dark as soon as it is -down."""
    _refuse_unless_within(up, 30, "up")
    _refuse_unless_within(down, 30, "down")
    _refuse_bad_arm(signs, arm)
    return _made_of(LevelRace(up, down, signs, arm), (LIT, DARK))


def ahead_by(by, last, looks=None, *, signs=("hit", "miss"), arm="trial"):
    """The watch that is lit at a look at which the level is by or more, and dark behind last signs."""
    _refuse_unless_within(by, 14, "by")
    _refuse_unless_within(last, 14, "last")
    if looks is not None and not _are_looks(looks, last):
        raise BadNumbers("looks")
    _refuse_bad_arm(signs, arm)
    told = list(range(1, last + 1)) if looks is None else list(looks)
    return _made_of(LevelLooks(by, told, last, signs, arm), (LIT, DARK))


def cut(watch, last, dark="dark"):
    """The watch, which goes to the end dark if it has not ended behind last signs."""
    refuse_no_watch(watch, "watch")
    _refuse_unless_within(last, 60, "last")
    ends = ends_with(watch, dark)
    machine = CutWatch(watch, last, dark)
    lines, met = explored(machine)
    made = {line[0]: True for line in lines}
    for end in ends:
        if end in made:
            raise Twice(end)
    return Watch(arms_of(machine, lines, met), ends, lines)


def ends_with(watch, dark):
    """The ends of the watch, then dark if it is none of them; refuses what cannot be an end of it."""
    if not is_label(dark) or dark in watch or dark == LIT:
        raise BadWatch("dark")
    if dark in watch.ends:
        return watch.ends
    if len(watch.ends) == _MOST_ENDS:
        raise TooMany("ends", _MOST_ENDS)
    return (*watch.ends, dark)


def _made_of(machine, ends):
    lines, met = explored(machine)
    return Watch(arms_of(machine, lines, met), ends, lines)


def _refuse_unless_within(value, most, part):
    if not is_within(value, 1, most):
        raise BadNumbers(part)


def _refuse_bad_signs(signs):
    if not are_labels(signs, 2, 12):
        raise BadWatch("signs")


def _refuse_bad_arm(signs, arm):
    _refuse_bad_signs(signs)
    if not is_label(arm):
        raise BadWatch("arm")


def _are_looks(looks, last):
    if not is_listed(looks) or not looks or not all([is_within(look, 1, last) for look in looks]):
        return False
    return all([looks[at] < looks[at + 1] for at in range(len(looks) - 1)])

"""Shelves: watches to choose from, each with a study in which its claim is wrong and one in which it is right."""

from peekproof.checks import is_listed, is_name, is_one_of
from peekproof.costs import Costs
from peekproof.dearest import dearest
from peekproof.errors import BadShelf, BadStudy, NoStudy, TooMany, Unsure
from peekproof.greatest import greatest
from peekproof.labels import refuse_twice
from peekproof.ladders import told_level
from peekproof.least import least
from peekproof.moves import refuse_too_many_states
from peekproof.papers import Denial, Paper
from peekproof.ratios import greatest_of, least_of
from peekproof.studies import Study
from peekproof.sure import sure


class Slot:
    """A slot with a quiet and a real study on equal watches."""

    def __init__(self, name, quiet, real):
        if not is_name(name):
            raise BadShelf("name")
        if not isinstance(quiet, Study):
            raise BadStudy("quiet")
        if not isinstance(real, Study):
            raise BadStudy("real")
        if quiet.watch != real.watch:
            raise BadShelf("watches")
        self.name = name
        self.quiet = quiet
        self.real = real

    def __eq__(self, other):
        if not isinstance(other, Slot):
            return False
        return self.name == other.name and self.quiet == other.quiet and self.real == other.real


class Shelf:
    """A shelf of these slots."""

    MOST = 12

    def __init__(self, slots):
        if not is_listed(slots) or not slots or not all([isinstance(slot, Slot) for slot in slots]):
            raise BadShelf("slots")
        refuse_twice([slot.name for slot in slots], ())
        if len(slots) > Shelf.MOST:
            raise TooMany("slots", Shelf.MOST)
        self.slots = tuple(slots)
        self._by_name = {slot.name: slot for slot in slots}

    def __len__(self):
        return len(self.slots)

    def __iter__(self):
        return iter(self.slots)

    def __contains__(self, value):
        return is_one_of(value, self._by_name)

    def slot_of(self, name):
        """The slot with this name."""
        if name not in self:
            raise NoStudy(name)
        return self._by_name[name]

    def __eq__(self, other):
        return isinstance(other, Shelf) and self.slots == other.slots


class Choice(Paper):
    """The name of the most telling slot that fits, and a paper for each slot."""

    def __init__(self, name, bars):
        super().__init__("choice", name, bars)
        self.name = self.parts[0]
        self.bars = self.parts[1]


class NoChoice(Denial):
    """No slot fits, as a paper for each one shows."""

    def __init__(self, bars):
        super().__init__("nochoice", bars)
        self.bars = self.parts[0]


class Chosen(Paper):
    """The Greatest, the Least and the Dearest of the most telling slot."""

    def __init__(self, calm, power, length):
        super().__init__("chosen", calm, power, length)
        self.calm = self.parts[0]
        self.power = self.parts[1]
        self.length = self.parts[2]


class Loud(Denial):
    """The Greatest of a slot that does not fit."""

    def __init__(self, calm):
        super().__init__("loud", calm)
        self.calm = self.parts[0]


class Dull(Denial):
    """The Least of a slot that has less power than the chosen one."""

    def __init__(self, power):
        super().__init__("dull", power)
        self.power = self.parts[0]


class Long(Denial):
    """The Least and the Dearest of a slot of the same power that is longer, or stands behind."""

    def __init__(self, power, length):
        super().__init__("long", power, length)
        self.power = self.parts[0]
        self.length = self.parts[1]


def most_telling(shelf, level):
    """A Choice of the most telling slot that fits the level; a NoChoice if none does."""
    told = refuse_bad_choice(shelf, level)
    _refuse_hard_slots(shelf)
    calms = {slot.name: greatest(slot.quiet) for slot in shelf.slots}
    fits = [slot for slot in shelf.slots if calms[slot.name].number.compared(told) <= 0]
    bars = {name: Loud(calm) for name, calm in calms.items()}
    if not fits:
        return NoChoice(bars)
    powers = {slot.name: least(slot.real) for slot in fits}
    most = greatest_of([power.number for power in powers.values()])
    for name, power in powers.items():
        bars[name] = Dull(power)
    lengths = {slot.name: length_of(slot) for slot in fits if powers[slot.name].number == most}
    shortest = least_of([length.number for length in lengths.values()])
    chosen = [name for name, length in lengths.items() if length.number == shortest][0]
    for name, length in lengths.items():
        bars[name] = Chosen(calms[name], powers[name], length) if name == chosen else Long(powers[name], length)
    return Choice(chosen, bars)


def refuse_bad_choice(shelf, level):
    """The Ratio of the level; refuses what is no shelf, and what is no level."""
    if not isinstance(shelf, Shelf):
        raise BadShelf("shelf")
    return told_level(level)


def length_of(slot):
    """The Dearest of the slot's real study, where each trial costs 1."""
    return dearest(slot.real, Costs.each_trial(slot.real.watch))


def _refuse_hard_slots(shelf):
    """Refuses the first real study that is not sure, and then studies that are too large to be solved."""
    for slot in shelf.slots:
        shown = sure(slot.real)
        if not shown:
            raise Unsure(shown)
    for slot in shelf.slots:
        refuse_too_many_states(slot.quiet)
        refuse_too_many_states(slot.real)

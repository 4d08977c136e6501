"""What a desk keeps while its lines are done: values under names, a hall, and the deed lines done."""

from peekproof.errors import Nothing


class Bench:
    """Values by their names, ascending, a hall or None, and the deed lines that made them."""

    def __init__(self, held, hall, lines):
        self.held = held
        self.hall = hall
        self.lines = lines

    def copied(self):
        """A bench with all of this; neither changes the other."""
        return Bench(self.held, None if self.hall is None else self.hall.twin(), self.lines)

    def value_at(self, name):
        """The value kept under the name."""
        if name not in self.held:
            raise Nothing()
        return self.held[name]

    def hall_here(self):
        """The hall; refuses if there is none yet."""
        if self.hall is None:
            raise Nothing()
        return self.hall

    def put(self, name, value):
        """Keeps the value under the name."""
        held = {**self.held, name: value}
        self.held = {other: held[other] for other in sorted(held)}

    def drop(self, name):
        """Keeps no value under the name any more."""
        self.value_at(name)
        self.held = {other: value for other, value in self.held.items() if other != name}

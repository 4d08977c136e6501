"""Blocks behind which a hall is as it was ahead of them, or as it was when they were last told to keep it."""

from peekproof.errors import Nothing


class Frame:
    """What holds behind a block, and the frame of the block around it, None if there is none."""

    def __init__(self, held, outer):
        self.held = held
        self.outer = outer


class Trial:
    """A trial of this hall, for blocks of `with`; made by `hall.trial()` alone."""

    def __init__(self, hall):
        self.hall = hall
        self.frame = None

    def __enter__(self):
        self.frame = Frame(self.hall.standing, self.frame)
        return self

    def __exit__(self, kind, value, trace):
        hall = self.hall
        hall.standing = self.frame.held
        self.frame = self.frame.outer

    def keep(self):
        """Behind the innermost block the hall will be as it is now."""
        frame = self.frame
        if frame is None:
            raise Nothing()
        frame.held = self.hall.standing

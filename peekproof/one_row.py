"""One watch in the place of those of a board's studies, where all of them see the same signs."""

from peekproof.boards import refuse_no_board, rest_of
from peekproof.errors import BadWatch, NoStudy
from peekproof.joined import watch_lit_or_dark
from peekproof.standings import DARK, LIT, SameSigns, refuse_unlike_arms
from peekproof.watches import Watch


class OnBoard(SameSigns):
    """Lit as soon as the lit ones light the board, dark as soon as they cannot any more."""

    def __init__(self, board, watches):
        super().__init__(watches)
        self.claim = board

    def end_of(self, places):
        """The end that a standing is, None if it is a state."""
        known = {name: place == LIT for name, place, watch in zip(self.claim.names, places, self.watches)
                 if place not in watch}
        left = rest_of(self.claim, known)
        if left is True:
            return LIT
        return DARK if left is False else None


def on_one(board, watches):
    """The watch that sees the signs of the watches of the board's names, and ends as the board is decided."""
    refuse_no_board(board, "board")
    if not isinstance(watches, dict):
        raise BadWatch("watches")
    for name in board.names:
        if not isinstance(watches.get(name), Watch):
            raise NoStudy(name)
    listed = [watches[name] for name in board.names]
    refuse_unlike_arms(listed)
    return watch_lit_or_dark(OnBoard(board, listed))

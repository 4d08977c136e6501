"""All errors of the package; their fields are kept as they were passed, whatever they are."""


class PeekError(ValueError):
    """The base of all errors of the package."""


class BadRatio(PeekError):
    """Something told for a ratio is wrong."""

    def __init__(self, part):
        self.part = part


class BadCrowd(PeekError):
    """Something told for a crowd is wrong."""

    def __init__(self, part):
        self.part = part


class BadTable(PeekError):
    """Something told for a table is wrong."""

    def __init__(self, part):
        self.part = part


class BadChances(PeekError):
    """These are no chances."""

    def __init__(self, part):
        self.part = part


class BadWatch(PeekError):
    """Something told for a watch is wrong."""

    def __init__(self, part):
        self.part = part


class BadStudy(PeekError):
    """Something told for a study is wrong."""

    def __init__(self, part):
        self.part = part


class BadWorths(PeekError):
    """These are no worths."""

    def __init__(self, part):
        self.part = part


class BadWorld(PeekError):
    """This tells no steady world."""

    def __init__(self, part):
        self.part = part


class BadCosts(PeekError):
    """Something told for costs is wrong."""

    def __init__(self, part):
        self.part = part


class BadNest(PeekError):
    """Something told for a nest is wrong."""

    def __init__(self, part):
        self.part = part


class BadBoard(PeekError):
    """Something told for a board is wrong."""

    def __init__(self, part):
        self.part = part


class BadNumbers(PeekError):
    """These numbers are wrong."""

    def __init__(self, part):
        self.part = part


class BadBet(PeekError):
    """Something told for a bet is wrong."""

    def __init__(self, part):
        self.part = part


class BadShelf(PeekError):
    """Something told for a ladder or a shelf is wrong."""

    def __init__(self, part):
        self.part = part


class BadHall(PeekError):
    """Something told for a hall is wrong."""

    def __init__(self, part):
        self.part = part


class BadLog(PeekError):
    """Something told for a log is wrong."""

    def __init__(self, part):
        self.part = part


class BadStory(PeekError):
    """Something told for a story is wrong."""

    def __init__(self, part):
        self.part = part


class BadPaper(PeekError):
    """Something told for a paper is wrong."""

    def __init__(self, part):
        self.part = part


class Missing(PeekError):
    """This name is none here; only the errors below are raised."""

    def __init__(self, name):
        self.name = name


class NoSign(Missing):
    """This is no sign here."""


class NoState(Missing):
    """This is no state here."""


class NoEnd(Missing):
    """This is no end here."""


class NoArm(Missing):
    """This is no arm here."""


class NoStudy(Missing):
    """This is the name of no study here."""


class Twice(PeekError):
    """This name or label stands, or would be made, twice."""

    def __init__(self, name):
        self.name = name


class UnlikeSigns(PeekError):
    """This arm has other signs, or in another order, in another watch."""

    def __init__(self, label):
        self.label = label


class UnlikeArms(PeekError):
    """These two ask, or are, different arms where they must be alike."""

    def __init__(self, one, other):
        self.one = one
        self.other = other


class Unsure(PeekError):
    """A study is not sure, as this trap shows."""

    def __init__(self, trap):
        self.trap = trap


class Unfair(PeekError):
    """A bet is not fair at this corner of this state."""

    def __init__(self, state, corner):
        self.state = state
        self.corner = corner


class NoPurse(PeekError):
    """There is no purse, for the reason that this word tells."""

    def __init__(self, word):
        self.word = word


class NotWithin(PeekError):
    """This rung is lit by this row, and the one ahead is not."""

    def __init__(self, name, row):
        self.name = name
        self.row = row


class Over(PeekError):
    """This study has ended, or was stopped."""

    def __init__(self, name):
        self.name = name


class Refuted(PeekError):
    """This sign has no chance there."""

    def __init__(self, name, label):
        self.name = name
        self.label = label


class Nothing(PeekError):
    """There is nothing to do it with."""


class TooMany(PeekError):
    """There are more of these than the most that there may be."""

    def __init__(self, what, most):
        self.what = what
        self.most = most


class BadText(PeekError):
    """This word of this line cannot stand, or is missing."""

    def __init__(self, line, word):
        self.line = line
        self.word = word


class BadLine(PeekError):
    """This line of a desk raised this error."""

    def __init__(self, line, error):
        self.line = line
        self.error = error

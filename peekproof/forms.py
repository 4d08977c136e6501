"""What a board's form tells of studies: how often a claim can be wrong, and how strong it is."""

from peekproof.boards import form_of, refuse_no_board, told_chances
from peekproof.errors import BadNumbers, BadStudy, NoStudy, Unsure
from peekproof.greatest import greatest, is_purse
from peekproof.least import least
from peekproof.papers import Paper
from peekproof.ratios import Ratio
from peekproof.strength import refuse_wide_weighings, wrongest_of
from peekproof.studies import Study


class LitAtMost(Paper):
    """The greatest chance that a board is lit, with a Greatest for each of its studies."""

    def __init__(self, number, papers):
        super().__init__("litatmost", number, papers)
        self.number = self.parts[0]
        self.papers = self.parts[1]


class LitAtLeast(Paper):
    """The least chance that a board is lit, with a Least for each of its studies."""

    def __init__(self, number, papers):
        super().__init__("litatleast", number, papers)
        self.number = self.parts[0]
        self.papers = self.parts[1]


class LitWithin(Paper):
    """A chance that a board is lit with at most, with a purse for each of its studies."""

    def __init__(self, number, tables):
        super().__init__("litwithin", number, tables)
        self.number = self.parts[0]
        self.tables = self.parts[1]


class Wrongest(Paper):
    """How often a wrong claim is made at most, and the effects at which it is."""

    def __init__(self, number, effects):
        super().__init__("wrongest", number, effects)
        self.number = self.parts[0]
        self.effects = self.parts[1]


def pull(board, ratios, name):
    """How much the form changes with what this name has."""
    chances = refuse_bad_ratios(board, ratios)
    if name not in board:
        raise NoStudy(name)
    return form_of(board, {**chances, name: Ratio(1)}) - form_of(board, {**chances, name: Ratio(0)})


def greatest_lit(board, studies):
    """The greatest chance that the board is lit."""
    refuse_missing_studies(board, studies)
    papers = {name: greatest(studies[name]) for name in board.names}
    return LitAtMost(form_of(board, {name: paper.number for name, paper in papers.items()}), papers)


def least_lit(board, studies):
    """The least chance that the board is lit, over worlds that go on."""
    refuse_missing_studies(board, studies)
    papers = {name: _surely(least(studies[name])) for name in board.names}
    return LitAtLeast(form_of(board, {name: paper.number for name, paper in papers.items()}), papers)


def lit_within(board, studies, tables):
    """The form at what purses tell of the studies."""
    refuse_missing_studies(board, studies)
    if not isinstance(tables, dict):
        raise BadNumbers("tables")
    for name in board.names:
        if not is_fair_purse(studies[name], tables.get(name)):
            raise BadNumbers(name)
    told = {name: {state: Ratio.of(tables[name][state]) for state in studies[name].states} for name in board.names}
    firsts = {name: told[name][studies[name].watch.first] for name in board.names}
    return LitWithin(form_of(board, firsts), told)


def strong(board, ratios, *effects):
    """The form with these effects at 1."""
    chances = refuse_bad_ratios(board, ratios)
    for effect in effects:
        if effect not in board:
            raise NoStudy(effect)
    return form_of(board, {name: Ratio(1) if name in effects else chance for name, chance in chances.items()})


def wrongest(board, ratios):
    """The greatest strength of all effects for which the claim is wrong."""
    chances = refuse_bad_ratios(board, ratios)
    refuse_wide_weighings(board)
    number, effects = wrongest_of(board, chances)
    return Wrongest(number, [name for name in board.names if name in effects])


def refuse_bad_ratios(board, ratios):
    """The dict of the board's ratios; refuses what is no board or no ratios for it."""
    refuse_no_board(board, "board")
    return told_chances(board, ratios)


def refuse_missing_studies(board, studies):
    """Refuses what is no board, what is no dict, and what tells no study for one of the board's names."""
    refuse_no_board(board, "board")
    if not isinstance(studies, dict):
        raise BadStudy("studies")
    for name in board.names:
        if not isinstance(studies.get(name), Study):
            raise NoStudy(name)


def is_fair_purse(study, table):
    """Whether it is a purse of the study with no ratio above 1."""
    return is_purse(study, table) and all([Ratio.of(number).compared(1) <= 0 for number in table.values()])


def _surely(paper):
    """The Least that this is; refuses a Trap."""
    if not paper:
        raise Unsure(paper)
    return paper

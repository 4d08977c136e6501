"""Whether papers about boards and ties are right."""

from peekproof.boards import form_of
from peekproof.check_solved import shows_greatest, shows_least
from peekproof.forms import LitAtLeast, LitAtMost, LitWithin, Wrongest
from peekproof.forms import is_fair_purse, refuse_missing_studies, strong, wrongest
from peekproof.greatest import Greatest
from peekproof.least import Least
from peekproof.ratios import Ratio, added, as_ratio, as_shares, ascending, mean_of
from peekproof.showing import amounts_over, is_equal_ratio, table_over
from peekproof.ties import Tied, refuse_bad_tie


def shows_lit(board, studies, value):
    """Whether value is a right LitAtMost, LitAtLeast or LitWithin."""
    refuse_missing_studies(board, studies)
    if isinstance(value, LitAtMost):
        papers = table_over(value.papers, board.names)
        return (papers is not None and all([_is_greatest(studies[name], papers[name]) for name in board.names])
                and is_equal_ratio(value.number, _form_of_papers(board, papers)))
    if isinstance(value, LitAtLeast):
        papers = table_over(value.papers, board.names)
        return (papers is not None and all([_is_least(studies[name], papers[name]) for name in board.names])
                and is_equal_ratio(value.number, _form_of_papers(board, papers)))
    return isinstance(value, LitWithin) and _is_within_purses(board, studies, value)


def shows_wrongest(board, ratios, value):
    """Whether value is a right Wrongest."""
    most = wrongest(board, ratios).number
    if not isinstance(value, Wrongest) or not isinstance(value.effects, tuple):
        return False
    if [name for name in board.names if name in value.effects] != list(value.effects) or board.lights(value.effects):
        return False
    return is_equal_ratio(value.number, most) and strong(board, ratios, *value.effects) == most


def shows_tied(many, ratios, value):
    """Whether value is a right Tied."""
    chances = refuse_bad_tie(many, ratios)
    number = as_ratio(value.number) if isinstance(value, Tied) else None
    if number is None or not _are_lots(many, chances, value.lots, number):
        return False
    if value.weights is None:
        return number == 1
    names = sorted(chances)
    weights = amounts_over(value.weights, names)
    if weights is None or mean_of([weights[name] for name in names], [chances[name] for name in names]) != number:
        return False
    listed = [weights[name] for name in names]
    return added([listed[at] for at in ascending([[weight] for weight in listed])[:many]]).compared(1) >= 0


def _is_greatest(study, paper):
    return isinstance(paper, Greatest) and shows_greatest(study, paper)


def _is_least(study, paper):
    return isinstance(paper, Least) and shows_least(study, paper)


def _form_of_papers(board, papers):
    return form_of(board, {name: Ratio.of(papers[name].number) for name in board.names})


def _is_within_purses(board, studies, value):
    parts = table_over(value.tables, board.names)
    number = as_ratio(value.number)
    if parts is None or number is None:
        return False
    tables = {name: table_over(parts[name], studies[name].states) for name in board.names}
    if not all([is_fair_purse(studies[name], tables[name]) for name in board.names]):
        return False
    firsts = {name: Ratio.of(tables[name][studies[name].watch.first]) for name in board.names}
    return not number.is_below(form_of(board, firsts))


def _are_lots(many, chances, lots, number):
    """Whether they are lots in which no name comes too often, and so many names as often as the number tells."""
    if not isinstance(lots, tuple) or len(lots) > len(chances) + 1:
        return False
    if not all([isinstance(lot, tuple) and len(lot) == 2 and _are_names(chances, lot[0]) for lot in lots]):
        return False
    shares = as_shares([share for _, share in lots], len(lots))
    if shares is None or any([share.sign == 0 for share in shares]):
        return False
    pairs = [(names, share) for (names, _), share in zip(lots, shares)]
    if any([chances[name].is_below(added([share for names, share in pairs if name in names])) for name in chances]):
        return False
    return added([share for names, share in pairs if len(names) >= many]) == number


def _are_names(chances, names):
    """Whether it lists some of the names, ascending, each once."""
    if not isinstance(names, tuple) or not all([isinstance(name, str) and name in chances for name in names]):
        return False
    return all([names[at] < names[at + 1] for at in range(len(names) - 1)])

"""The ask lines of a desk: each function gives the answer to one from what a bench has."""

from peekproof.boards import refuse_no_board
from peekproof.costs import Costs
from peekproof.dearest import dearest
from peekproof.deed_lines import kept_pairs
from peekproof.forms import wrongest
from peekproof.greatest import greatest
from peekproof.leads import lead
from peekproof.least import least
from peekproof.moves import refuse_no_study
from peekproof.ratios import Ratio
from peekproof.shapes import shape_of
from peekproof.soonest import soonest
from peekproof.sure import sure
from peekproof.ties import tied
from peekproof.watches import refuse_no_watch
from peekproof.within import within

_NONE = "-"


def _names(bench, words):
    return _listed(list(bench.held))


def _show(bench, words):
    return str(bench.value_at(words[1]))


def _after(bench, words):
    watch = bench.value_at(words[1])
    refuse_no_watch(watch, "watch")
    return watch.after(words[2:])


def _sure(bench, words):
    shown = sure(bench.value_at(words[1]))
    return "yes" if shown else _row_answer(shown)


def _greatest(bench, words):
    return str(greatest(bench.value_at(words[1])).number)


def _worth(bench, words):
    return str(greatest(bench.value_at(words[1]), _ratio_pairs(words[2:])).number)


def _least(bench, words):
    paper = least(bench.value_at(words[1]))
    return str(paper.number) if paper else _row_answer(paper)


def _dearest(bench, words):
    study = bench.value_at(words[1])
    refuse_no_study(study)
    paper = dearest(study, Costs.each_trial(study.watch))
    return str(paper.number) if paper else paper.word


def _soonest(bench, words):
    study = bench.value_at(words[1])
    paper = soonest(study)
    return str(paper.number) if paper else f"{paper.word} {dict(paper.purse)[study.watch.first]}"


def _shape(bench, words):
    return " / ".join([" ".join([str(chance) for chance in corner]) for corner in shape_of(bench.value_at(words[1]))])


def _form(bench, words):
    board = bench.value_at(words[1])
    refuse_no_board(board, "board")
    return str(board(_ratio_pairs(words[2:])))


def _worst(bench, words):
    return str(wrongest(bench.value_at(words[1]), _ratio_pairs(words[2:])).number)


def _tied(bench, words):
    return str(tied(int(words[1]), _ratio_pairs(words[2:])).number)


def _within(bench, words):
    shown = within(bench.value_at(words[1]), bench.value_at(words[2]))
    return "yes" if shown else _row_answer(shown)


def _lead(bench, words):
    return str(lead(bench.value_at(words[1]), bench.value_at(words[2]), kept_pairs(bench, words[3:])).number)


def _fear(bench, words):
    return str(bench.hall_here().fear)


def _peak(bench, words):
    return str(bench.hall_here().peak)


def _hope(bench, words):
    return str(bench.hall_here().hope())


def _likely(bench, words):
    return str(bench.hall_here().likely())


def _story(bench, words):
    return str(bench.hall_here().story)


def _lasting(bench, words):
    number = bench.hall_here().lasting()
    return "endless" if number is None else str(number)


def _lit(bench, words):
    return "yes" if bench.hall_here().is_lit else "no"


def _place(bench, words):
    return bench.hall_here().place(words[1])


def _choices(bench, words):
    return _listed(bench.hall_here().choices(words[1]))


def _would(bench, words):
    steps = [(name, None if sign == _NONE else sign) for name, sign in zip(words[1::2], words[2::2])]
    return " ".join([str(fear) for fear in bench.hall_here().would(*steps)])


def _listed(words):
    """The words, or a dash if there is none."""
    return " ".join(words) if words else _NONE


def _row_answer(paper):
    """The word of a denial with the signs of its row."""
    return " ".join([paper.word, *paper.row])


def _ratio_pairs(words):
    """The dict from the first word of each pair to the ratio that the second one is."""
    return {one: Ratio.read(other) for one, other in zip(words[::2], words[1::2])}


ASKS = {
    "names": _names,
    "show": _show,
    "after": _after,
    "sure": _sure,
    "greatest": _greatest,
    "worth": _worth,
    "least": _least,
    "dearest": _dearest,
    "soonest": _soonest,
    "shape": _shape,
    "form": _form,
    "worst": _worst,
    "tied": _tied,
    "within": _within,
    "lead": _lead,
    "fear": _fear,
    "peak": _peak,
    "hope": _hope,
    "likely": _likely,
    "story": _story,
    "lasting": _lasting,
    "lit": _lit,
    "place": _place,
    "choices": _choices,
    "would": _would,
}

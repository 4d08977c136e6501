"""Studies some of whose signs are lost before the watch is told of them."""

from peekproof.handling import Spending
from peekproof.moves import refuse_no_study
from peekproof.pockets import Handled, refuse_bad_budget


class Lost(Handled):
    """The study of which at most so many signs are lost, any number without a budget."""

    def __init__(self, study, most=1):
        refuse_no_study(study)
        if most is not None:
            refuse_bad_budget(most)
        super().__init__(Spending(study, most, "l", "lost", 0))

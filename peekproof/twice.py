"""Studies some of whose signs are told twice."""

from peekproof.handling import Spending
from peekproof.moves import refuse_no_study
from peekproof.pockets import Handled, refuse_bad_budget, refuse_unlike_signs_of_arms


class Doubled(Handled):
    """The study of which at most so many signs are told twice, one behind the other."""

    def __init__(self, study, most=1):
        refuse_no_study(study)
        refuse_bad_budget(most)
        refuse_unlike_signs_of_arms(study.watch)
        super().__init__(Spending(study, most, "t", "twice", 2))

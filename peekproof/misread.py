"""Studies whose signs are read as others, by the chances of tables."""

from peekproof.errors import BadTable, NoArm
from peekproof.handling import Act, Handling
from peekproof.labels import dotted
from peekproof.moves import refuse_no_study
from peekproof.pockets import Handled
from peekproof.studies import Study
from peekproof.tables import Table


class Misreading(Handling):
    """Behind each drawn sign the table of its arm draws the one that is told in its place."""

    MOST_ARMS = 200

    def __init__(self, plain, tables):
        super().__init__(plain, 0, [(0, ())])
        self.tables = {arm: tables.get(arm, Table.same(signs)) for arm, signs in plain.watch.arms}

    def acts_of(self, arm, pocket):
        """Each sign with each one as which it may be read."""
        table = self.tables[arm]
        return [Act(dotted(sign, target), sign, (target,), pocket)
                for sign in table.sources for target, _ in table.chances_of(sign)]

    def corners_made(self, arm, pocket):
        """For each corner the chances of each sign being read so."""
        table = self.tables[arm]
        return [[chance * share for sign, chance in zip(table.sources, corner) for _, share in table.chances_of(sign)]
                for corner in self.crowds[arm].corners]


class Misread(Handled):
    """The misread study with both signs seen, the one drawn and the one told in its place."""

    def __init__(self, study, tables):
        super().__init__(Misreading(study, _tables_by_arm(study, tables)))


def misread(study, tables):
    """The study of which the watch is told what the tables draw behind each sign."""
    told = _tables_by_arm(study, tables)
    return Study(study.watch, {arm: crowd * told[arm] if arm in told else crowd for arm, crowd in study.crowds})


def _tables_by_arm(study, tables):
    """The dict from arms to their tables; refuses what does not fit the study."""
    refuse_no_study(study)
    signs = {arm: arm_signs for arm, arm_signs in study.watch.arms}
    if isinstance(tables, Table):
        told = {arm: tables for arm in signs if signs[arm] == tables.sources}
        if not told:
            raise BadTable("signs")
    else:
        _refuse_no_tables(signs, tables)
        told = {arm: tables[arm] for arm in signs if arm in tables}
    if not all([table.sources == signs[arm] and table.targets == table.sources for arm, table in told.items()]):
        raise BadTable("signs")
    return told


def _refuse_no_tables(arms, tables):
    """Refuses what is no dict from strings to tables, and then the first key that is no arm."""
    if not isinstance(tables, dict) or not all([isinstance(arm, str) for arm in tables]):
        raise BadTable("tables")
    if not all([isinstance(table, Table) for table in tables.values()]):
        raise BadTable("tables")
    for arm in sorted(tables):
        if arm not in arms:
            raise NoArm(arm)

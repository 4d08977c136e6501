"""Tables: for each source chances over the targets."""

from peekproof.checks import are_labels, is_listed, is_one_of
from peekproof.errors import BadTable
from peekproof.ratios import as_shares, mean_of
from peekproof.words import read_parts


class Table:
    """A table with these sources, targets and rows of chances."""

    MOST = 12

    def __init__(self, sources, targets, rows):
        if not are_labels(sources, 1, Table.MOST):
            raise BadTable("sources")
        if not are_labels(targets, 1, Table.MOST):
            raise BadTable("targets")
        lines = _lines_of(rows, len(sources), len(targets))
        if lines is None:
            raise BadTable("rows")
        self.sources = tuple(sources)
        self.targets = tuple(targets)
        self.lines = lines
        self._chances = {source: _by_label(targets, line) for source, line in zip(sources, lines)}

    def __iter__(self):
        return iter(self.sources)

    def __getitem__(self, at):
        source, target = at
        if not is_one_of(source, self._chances):
            raise BadTable("source")
        if not is_one_of(target, self._chances[source]):
            raise BadTable("target")
        return self._chances[source][target]

    def chances_of(self, source):
        """The pairs (target, chance) of the targets that the source can be shown as."""
        if not is_one_of(source, self._chances):
            raise BadTable("source")
        return tuple([(target, chance) for target, chance in self._chances[source].items() if chance.sign > 0])

    def __mul__(self, other):
        if not isinstance(other, Table):
            raise BadTable("other")
        if other.sources != self.targets:
            raise BadTable("fit")
        return Table(self.sources, other.targets, [behind_table(line, other) for line in self.lines])

    def __eq__(self, other):
        if not isinstance(other, Table):
            return False
        return self.sources == other.sources and self.targets == other.targets and self.lines == other.lines

    @staticmethod
    def same(labels):
        """The table that shows each of these labels as itself."""
        if not are_labels(labels, 1, Table.MOST):
            raise BadTable("sources")
        return Table(labels, labels, [[int(one == other) for other in labels] for one in labels])

    def __str__(self):
        return " ; ".join([f"{source} {text_of_part(self.targets, line)}"
                           for source, line in zip(self.sources, self.lines)])

    @classmethod
    def read(cls, text):
        """The table with this text."""
        sources, targets, lines = read_parts(text, ";", cls.MOST, cls.MOST, True)
        return cls(sources, targets, lines)


def behind_table(chances, table):
    """The chances of the targets, if these are the chances of the sources."""
    return tuple([mean_of(chances, [line[at] for line in table.lines]) for at in range(len(table.targets))])


def text_of_part(labels, chances):
    """Each label with its chance, in order."""
    return " ".join([f"{label} {chance}" for label, chance in zip(labels, chances)])


def _by_label(labels, chances):
    return {label: chance for label, chance in zip(labels, chances)}


def _lines_of(rows, height, width):
    if not is_listed(rows) or len(rows) != height:
        return None
    lines = tuple([as_shares(row, width) for row in rows])
    return None if any([line is None for line in lines]) else lines

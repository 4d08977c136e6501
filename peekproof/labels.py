"""Labels that are made out of others."""

from peekproof.errors import TooMany, Twice

_MOST_NAMES = 6


def dotted(one, other):
    """The two labels with a dot between them."""
    return f"{one}.{other}"


def refuse_long_labels(labels):
    """Refuses made labels of too many names."""
    if any([len(label.split(".")) > _MOST_NAMES for label in labels]):
        raise TooMany("names", _MOST_NAMES)


def refuse_twice(labels, taken):
    """Refuses the first of the labels that stands ahead of it, or is taken."""
    known = {label: True for label in taken}
    for label in labels:
        if label in known:
            raise Twice(label)
        known[label] = True

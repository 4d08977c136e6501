"""What kind of value something is, for any values."""

_LETTERS = "abcdefghijklmnopqrstuvwxyz"
_NAME_SIGNS = "abcdefghijklmnopqrstuvwxyz0123456789"
_MOST_LETTERS = 12
_MOST_NAMES = 6


def is_integer(value):
    """Whether it is an integer; True and False are none."""
    return isinstance(value, int) and not isinstance(value, bool)


def is_within(value, least, most):
    """Whether it is an integer from least to most; None is no bound."""
    if not is_integer(value):
        return False
    return (least is None or value >= least) and (most is None or value <= most)


def is_name(value):
    """Whether it is a name."""
    if not isinstance(value, str) or not 1 <= len(value) <= _MOST_LETTERS:
        return False
    return value[0] in _LETTERS and all([sign in _NAME_SIGNS for sign in value])


def is_label(value):
    """Whether it is a label."""
    if not isinstance(value, str):
        return False
    names = value.split(".")
    return len(names) <= _MOST_NAMES and all([is_name(name) for name in names])


def is_listed(value):
    """Whether it is a list or a tuple, which stand for one another."""
    return isinstance(value, (list, tuple))


def is_one_of(value, labels):
    """Whether any value, also one that cannot be a key, is one of these labels or keys."""
    return isinstance(value, str) and value in labels


def are_labels(value, least, most):
    """Whether it lists from least to most different labels."""
    if not is_listed(value) or not least <= len(value) <= most:
        return False
    return all([is_label(label) for label in value]) and len(set(value)) == len(value)

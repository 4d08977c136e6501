"""What the document says of the texts of watches and studies, told by beginnings and whole texts."""

from tests.parts_oracle import Parts, is_label
from tests.support import first_bad_word

CROWD = Parts("/", 96, False)


def split(words, mark):
    groups = [[]]
    for word in words:
        if word == mark:
            groups.append([])
        else:
            groups[-1].append(word)
    return groups


def are_labels(words, most):
    return len(words) <= most and len(set(words)) == len(words) and all(is_label(word) for word in words)


def watch_fits(words, whole):
    """Whether these words can begin a text (or are a whole one), places and arms not asked left aside."""
    groups = split(words, "/")
    arms, ends, states, asked = {}, None, [], []
    for at, group in enumerate(groups):
        done = whole or at < len(groups) - 1
        if ends is None and (not arms or group[1:2] == [":"]):
            if group[:1] and (not is_label(group[0]) or (len(group) > 1 and group[0] in arms)):
                return False
            if group[1:2] not in ([], [":"]) or not are_labels(group[2:], 12) or (done and len(group) < 3):
                return False
            if done:
                arms[group[0]] = group[2:]
        elif ends is None:
            if not are_labels(group, 9) or (done and not group):
                return False
            if done:
                ends = group
        else:
            if not state_fits(group, done, arms, ends, states, asked) or len(states) == 200:
                return False
            states.append(group[0] if group else None)
            asked.append(group[1] if len(group) > 1 else None)
    return bool(states) or not whole


def state_fits(group, done, arms, ends, states, asked):
    if group[:1] and (not is_label(group[0]) or group[0] in [*ends, "lit", *states]):
        return False
    left = [arm for arm in arms if arm not in asked]
    if group[1:2] and group[1] not in asked and group[1] not in left[:1]:
        return False
    if group[2:3] not in ([], [":"]):
        return False
    places = group[3:]
    many = len(arms[group[1]]) if len(group) > 1 else 0
    if len(places) > many or not all(is_label(place) for place in places):
        return False
    return not done or (len(group) > 3 and len(places) == many)


def watch_word(words):
    """The word that is told for the text of a watch; None for a right one."""
    told = first_bad_word(words, lambda some: watch_fits(some, False), lambda some: watch_fits(some, True))
    if told is not None:
        return told
    groups = split(words, "/")
    first = next(at for at, group in enumerate(groups) if group[1:2] != [":"])
    known = [*groups[first], *[group[0] for group in groups[first + 1:]]]
    at = sum(len(group) + 1 for group in groups[:first + 1])
    for group in groups[first + 1:]:
        for place, label in enumerate(group[3:]):
            if label not in known:
                return at + 3 + place
        at += len(group) + 1
    asked = {group[1] for group in groups[first + 1:]}
    return len(words) if any(group[0] not in asked for group in groups[:first]) else None


def study_word(words):
    """The word that is told for the text of a study; None for a right one."""
    groups = split(words, "|")
    told = watch_word(groups[0] or [""])
    if told is not None:
        return told
    arms = [group for group in split(groups[0], "/") if group[1:2] == [":"]]
    asked = [(group[0], group[2:]) for group in arms]
    at = len(groups[0])
    for number, group in enumerate(groups[1:]):
        if number == len(asked):
            return at
        arm, signs = asked[number]
        if group[:1] != [arm]:
            return at + 1
        told = first_bad_word(group[1:] or [""], CROWD.can_begin, CROWD.is_whole)
        if told is not None:
            return at + 2 + told
        if split(group[1:], "/")[0][::2] != signs:
            return at + 1 + len(group)
        at += 1 + len(group)
    return len(words) if len(groups) - 1 < len(asked) else None

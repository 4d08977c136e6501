"""The deed lines of a desk: each function does one on a bench, and gives the answer."""

from peekproof.halls import Hall
from peekproof.late import Late
from peekproof.lost import Lost
from peekproof.misread import misread
from peekproof.nests import flattened, nested
from peekproof.reader import value_of
from peekproof.studies import Study
from peekproof.twice import Doubled

_DONE = "ok"


def _keep(bench, words):
    bench.put(words[1], value_of(words[2], words[3]))
    return _DONE


def _drop(bench, words):
    bench.drop(words[1])
    return _DONE


def _study(bench, words):
    bench.put(words[1], Study(bench.value_at(words[2]), kept_pairs(bench, words[3:])))
    return _DONE


def _nest(bench, words):
    bench.put(words[1], nested(bench.value_at(words[2]), kept_pairs(bench, words[3:])))
    return _DONE


def _flat(bench, words):
    bench.put(words[1], flattened(bench.value_at(words[2]), kept_pairs(bench, words[3:])))
    return _DONE


def _misread(bench, words):
    bench.put(words[1], misread(bench.value_at(words[2]), bench.value_at(words[3])))
    return _DONE


def _lose(bench, words):
    bench.put(words[1], Lost(bench.value_at(words[2]), int(words[3])))
    return _DONE


def _repeat(bench, words):
    bench.put(words[1], Doubled(bench.value_at(words[2]), int(words[3])))
    return _DONE


def _delay(bench, words):
    bench.put(words[1], Late(bench.value_at(words[2]), int(words[3])))
    return _DONE


def _open_hall(bench, words):
    studies = [(name, study) for name, study in kept_pairs(bench, words[2:]).items()]
    bench.hall = Hall(studies, bench.value_at(words[1]))
    return str(bench.hall.fear)


def _see(bench, words):
    return bench.hall_here().see(words[1], words[2])


def _stop(bench, words):
    bench.hall_here().stop(words[1])
    return str(bench.hall.fear)


def _back(bench, words):
    bench.hall_here().back()
    return str(bench.hall.fear)


def _again(bench, words):
    bench.hall_here().again()
    return str(bench.hall.fear)


def _turn(bench, words):
    bench.hall_here().change(bench.value_at(words[1]))
    return str(bench.hall.fear)


def kept_pairs(bench, words):
    """The dict from the first word of each pair to the value kept under the second one."""
    return {one: bench.value_at(other) for one, other in zip(words[::2], words[1::2])}


DEEDS = {
    "keep": _keep,
    "drop": _drop,
    "study": _study,
    "nest": _nest,
    "flat": _flat,
    "misread": _misread,
    "lose": _lose,
    "repeat": _repeat,
    "delay": _delay,
    "open": _open_hall,
    "see": _see,
    "stop": _stop,
    "back": _back,
    "again": _again,
    "turn": _turn,
}

"""Signals, and how far samples are from them: [13].

The coder is known to be right; a signal may be anything where it is needed.
"""

from stepsound.errors import OutOfPlace
from stepsound.kinds import is_between

MOST_NUMBERS = 64


def need_signal(thing):
    if not _is_signal(thing):
        raise OutOfPlace("no signal")


def nearest_code(number, states):
    """The least code whose sample is nearest to a number, STATES being those to which the codes lead."""
    distances = [abs(number - level) for level, _ in states]
    return distances.index(min(distances))


def total_distance(signal, samples):
    """The sum of the distances between the numbers of a signal and as many samples."""
    return sum([abs(number - sample) for number, sample in zip(signal, samples)])


def _is_signal(thing):
    if not isinstance(thing, tuple) or len(thing) > MOST_NUMBERS:
        return False
    return all([is_between(number, -40000, 40000) for number in thing])

"""What is heard of a row, and where it ends: [3], [4]."""

from stepsound.coders import need_coder
from stepsound.kinds import need_row, need_state
from stepsound.moves import samples_along, state_behind_row


def heard(coder, row, *, state=(0, 0)):
    """The tuple of the samples of a row that begins in a state."""
    _need_all(coder, row, state)
    return tuple(samples_along(coder, row, state))


def last_state(coder, row, *, state=(0, 0)):
    """The state behind the codes of a row that begins in a state."""
    _need_all(coder, row, state)
    return state_behind_row(coder, row, state)


def _need_all(coder, row, state):
    need_coder(coder)
    need_row(coder, row)
    need_state(coder, state)

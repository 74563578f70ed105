"""Hearers, who go on code by code."""

from stepsound.coders import need_coder
from stepsound.kinds import need_code, need_state
from stepsound.moves import state_behind


class Hearer:
    """One who hears codes, from one state to the next; it is called with each code."""

    def __init__(self, coder, *, state=(0, 0)):
        need_coder(coder)
        need_state(coder, state)
        self._coder = coder
        self._state = state
        self._many = 0

    def __call__(self, code):
        """Go on by a code, and return its sample."""
        need_code(self._coder, code)
        self._state = state_behind(self._coder, self._state, code)
        self._many = self._many + 1
        return self._state[0]

    @property
    def state(self):
        return self._state

    @property
    def many(self):
        """The number of codes heard."""
        return self._many

    def jump(self, state):
        """Go on from another state."""
        need_state(self._coder, state)
        self._state = state

    def copy(self):
        """A hearer with the same state and number, who goes on by itself."""
        other = Hearer(self._coder, state=self._state)
        other._many = self._many
        return other

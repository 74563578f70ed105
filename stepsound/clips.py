"""Clips: a coder, a row and the state in which it begins: [17]."""

from stepsound.coders import need_coder
from stepsound.errors import NoSeam, OutOfPlace, TooGreat
from stepsound.kinds import MOST_CODES, is_between, is_integer, need_few_states, need_row, need_state
from stepsound.moves import samples_along, state_behind_row
from stepsound.ways import seam_between


class Clip:
    """A row of a coder that begins in a state."""

    def __init__(self, coder, codes=(), *, state=(0, 0)):
        need_coder(coder)
        need_row(coder, codes)
        need_state(coder, state)
        self._coder = coder
        self._codes = codes
        self._state = state

    @property
    def coder(self):
        return self._coder

    @property
    def codes(self):
        return self._codes

    @property
    def state(self):
        return self._state

    def heard(self):
        """The tuple of the samples."""
        return tuple(samples_along(self._coder, self._codes, self._state))

    def last(self):
        """The state behind the codes."""
        return state_behind_row(self._coder, self._codes, self._state)

    def stretch(self, begin, end):
        """The clip of the codes from BEGIN to END - 1, beginning in the state in which they are heard."""
        if not is_between(end, 0, len(self._codes)) or not is_between(begin, 0, end):
            raise OutOfPlace("no stretch of the clip")
        state = state_behind_row(self._coder, self._codes[:begin], self._state)
        return Clip(self._coder, self._codes[begin:end], state=state)

    def copy(self):
        """An equal clip that goes on by itself."""
        return Clip(self._coder, self._codes, state=self._state)

    def begins(self, other):
        """True if the clip has the same coder and state as another one, and begins with its codes."""
        if not isinstance(other, Clip):
            raise OutOfPlace("no clip")
        if self._coder != other._coder or self._state != other._state:
            return False
        return self._codes[:len(other._codes)] == other._codes

    def __len__(self):
        return len(self._codes)

    def __eq__(self, other):
        if not isinstance(other, Clip):
            return False
        return self._coder == other._coder and self._codes == other._codes and self._state == other._state

    def __contains__(self, x):
        return is_integer(x) and x in samples_along(self._coder, self._codes, self._state)

    def __add__(self, other):
        """The clip with the codes of this one, the seam, and the codes of another clip of the coder."""
        if not isinstance(other, Clip) or other._coder != self._coder:
            raise OutOfPlace("no clip of this coder")
        need_few_states(self._coder, 4096)
        last = state_behind_row(self._coder, self._codes, self._state)
        between = seam_between(self._coder, last, other._codes, other._state)
        if between is None:
            raise NoSeam("no row leads from the one clip to the other")
        codes = self._codes + between + other._codes
        _need_few_codes(len(codes))
        return Clip(self._coder, codes, state=self._state)

    def __mul__(self, other):
        """The clip with its codes repeated so many times."""
        _need_repeats(self._codes, other)
        return Clip(self._coder, self._codes * other, state=self._state)

    def __rmul__(self, other):
        _need_repeats(self._codes, other)
        return Clip(self._coder, self._codes * other, state=self._state)

    def __iadd__(self, other):
        """Append a row to the clip itself, known by whatever name."""
        need_row(self._coder, other)
        _need_few_codes(len(self._codes) + len(other))
        self._codes = self._codes + other
        return self


def _need_few_codes(many):
    if many > MOST_CODES:
        raise TooGreat(MOST_CODES)


def _need_repeats(codes, times):
    """Refuse what is no number of repetitions of these codes."""
    if not is_between(times, 0, MOST_CODES):
        raise OutOfPlace("no number from 0 to 2,000")
    _need_few_codes(len(codes) * times)

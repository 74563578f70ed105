"""Rows that are repeated, until they settle and beyond: [5]."""

from stepsound.coders import need_coder
from stepsound.errors import OutOfPlace
from stepsound.kinds import need_few_states, need_row, need_state, need_times
from stepsound.levels import changes_along, level_behind, limits_behind
from stepsound.moves import limited, state_behind_row


def settling(coder, row, *, state=(0, 0)):
    """The least number of repetitions behind which one more changes nothing, and the state there."""
    _need_coder_and_row(coder, row)
    need_state(coder, state)
    states = _states_until_settled(coder, row, state)
    return len(states) - 1, states[-1]


def last_of(coder, row, times, *, state=(0, 0)):
    """The state behind so many repetitions of a row."""
    _need_coder_and_row(coder, row)
    need_times(times)
    need_state(coder, state)
    return _state_behind_times(coder, row, times, state)


def sample_at(coder, row, number, *, state=(0, 0)):
    """The sample of an index in a row that is repeated without end."""
    _need_coder_and_row(coder, row)
    if len(row) == 0:
        raise OutOfPlace("an empty row has no samples")
    need_times(number)
    need_state(coder, state)
    times, index = divmod(number, len(row))
    ahead = _state_behind_times(coder, row, times, state)
    return state_behind_row(coder, row[:index + 1], ahead)[0]


def _need_coder_and_row(coder, row):
    need_coder(coder)
    need_few_states(coder, 4096)
    need_row(coder, row)


def _state_behind_times(coder, row, times, state):
    states = _states_until_settled(coder, row, state)
    return states[min(times, len(states) - 1)]


def _states_until_settled(coder, row, state):
    """The list of the states behind 0, 1, 2 .. repetitions, up to that in which the row settles."""
    states = _states_until_place_rests(coder, row, state)
    level, place = states[-1]
    changes = changes_along(coder, row, place)[0]
    return states + [(behind, place) for behind in _levels_until_settled(coder, changes, level)]


def _states_until_place_rests(coder, row, state):
    """The list of the states behind 0, 1, 2 .. repetitions, up to the first one with the last place."""
    states = [state]
    behind = state_behind_row(coder, row, state)
    while behind[1] != states[-1][1]:
        states.append(behind)
        behind = state_behind_row(coder, row, behind)
    return states


def _levels_until_settled(coder, changes, level):
    """The list of the levels behind 1, 2 .. times the changes, up to the one that stays."""
    # Without a fade a row may take as many repetitions as there are levels: so each takes but one sum.
    limits = limits_behind(coder, changes) if coder[4] == 0 else None
    levels = []
    now = level
    behind = _level_behind_once(coder, changes, limits, now)
    while behind != now:
        levels.append(behind)
        now = behind
        behind = _level_behind_once(coder, changes, limits, now)
    return levels


def _level_behind_once(coder, changes, limits, level):
    if limits is None:
        return level_behind(coder, changes, level)
    total, least, most = limits
    return limited(level + total, least, most)

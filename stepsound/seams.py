"""Where rows lead a state, ways between states, and seams between rows: [16]."""

from stepsound.coders import need_coder
from stepsound.kinds import need_few_states, need_row, need_state
from stepsound.moves import state_behind
from stepsound.ways import row_into, seam_between


def reached(coder, one):
    """The ascending tuple of all states to which rows lead a state, itself too."""
    _need_coder_and_state(coder, one)
    found = {one: True}
    layer = [one]
    while layer:
        fresh = []
        for state in layer:
            for code in range(len(coder[3])):
                after = state_behind(coder, state, code)
                if after not in found:
                    found[after] = True
                    fresh.append(after)
        layer = fresh
    return tuple(sorted(found))


def row_to(coder, one, other):
    """The way from a state to another one: the first of the shortest rows that lead there, or None."""
    _need_coder_and_state(coder, one)
    need_state(coder, other)
    return row_into(coder, one, {other: True})


def seam(coder, one, row, *, state=(0, 0)):
    """The seam from state ONE to a row that was coded for a state, None if there is none."""
    _need_coder_and_state(coder, one)
    need_row(coder, row)
    need_state(coder, state)
    return seam_between(coder, one, row, state)


def _need_coder_and_state(coder, one):
    need_coder(coder)
    need_few_states(coder, 4096)
    need_state(coder, one)

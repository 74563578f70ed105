"""The first of the shortest rows that lead somewhere: [7], [11], [16].

Whatever is passed here is known to be right.
"""

from stepsound.moves import all_states, samples_along, state_behind


def row_along(leaders, thing):
    """The row to a thing, LEADERS telling the (THING, CODE) ahead of each one, None for the first one."""
    row = []
    now = thing
    while leaders[now] is not None:
        now, code = leaders[now]
        row.append(code)
    return tuple(row[::-1])


def row_into(coder, one, wanted):
    """The first of the shortest rows from a state to one of those WANTED, None if there is none."""
    codes = list(range(len(coder[3])))
    leaders = {one: None}
    layer = [one]
    # Each layer is in the order of its rows, so the first state that is found ends the first row.
    while layer:
        fresh = []
        for state in layer:
            if state in wanted:
                return row_along(leaders, state)
            for code in codes:
                after = state_behind(coder, state, code)
                if after not in leaders:
                    leaders[after] = (state, code)
                    fresh.append(after)
        layer = fresh
    return None


def seam_between(coder, one, row, state):
    """The seam from state ONE to a row that was coded for a state, None if there is none."""
    return row_into(coder, one, _states_alike(coder, row, state))


def _states_alike(coder, row, state):
    """A dict with the states from which a row is heard as from a state."""
    if len(row) == 0:
        return {each: True for each in all_states(coder)}
    # Behind the first code those that were heard alike have one level: they are as few as the places.
    first = state_behind(coder, state, row[0])
    samples = samples_along(coder, row[1:], first)
    near = [(first[0], place) for place in range(len(coder[2]))]
    behind = [each for each in near if samples_along(coder, row[1:], each) == samples]
    return {each: True for each in all_states(coder) if state_behind(coder, each, row[0]) in behind}

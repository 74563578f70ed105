"""The moves of codes: [4]. Whatever is passed here is known to be right."""


def all_states(coder):
    """The tuple of all states of a coder, in ascending order."""
    low, high, steps = coder[:3]
    return tuple([(level, place) for level in range(low, high + 1) for place in range(len(steps))])


def rounded(number, divisor):
    """NUMBER divided by a DIVISOR above 0, rounded toward 0."""
    # `//` alone rounds down, which is away from 0 for numbers below 0.
    if number < 0:
        return -(-number // divisor)
    return number // divisor


def limited(number, least, most):
    """NUMBER, or the limit beyond which it lies."""
    return max(least, min(number, most))


def change_at(coder, code, place):
    """The change that a code makes at a place."""
    share = coder[3][code][0]
    return rounded(share * coder[2][place], 8)


def faded(level, fade):
    """What a fade leaves of a level."""
    if fade == 0:
        return level
    return level - rounded(level, fade)


def state_behind(coder, state, code):
    """The state to which a code leads a state."""
    low, high, steps, moves, fade = coder
    level, place = state
    turn = moves[code][1]
    moved = faded(level, fade) + change_at(coder, code, place)
    return limited(moved, low, high), limited(place + turn, 0, len(steps) - 1)


def state_behind_row(coder, row, state):
    """The state to which the codes of a row lead a state."""
    now = state
    for code in row:
        now = state_behind(coder, now, code)
    return now


def samples_along(coder, row, state):
    """The list of the samples that are heard of a row that begins in a state."""
    samples = []
    now = state
    for code in row:
        now = state_behind(coder, now, code)
        samples.append(now[0])
    return samples

"""What a row does to levels where it begins at a place: [6].

The places along a row do not depend on the levels, so a row that begins at a
place is told by the changes of its codes. Whatever is passed here is known to
be right.
"""

from stepsound.moves import change_at, faded, limited


def changes_along(coder, row, place):
    """The list of the changes of a row's codes, and the place behind the row."""
    last = len(coder[2]) - 1
    changes = []
    now = place
    for code in row:
        changes.append(change_at(coder, code, now))
        now = limited(now + coder[3][code][1], 0, last)
    return changes, now


def level_behind(coder, changes, level):
    """The level to which changes lead a level."""
    low, high, fade = coder[0], coder[1], coder[4]
    now = level
    for change in changes:
        now = limited(faded(now, fade) + change, low, high)
    return now


def limits_behind(coder, changes):
    """(D, A, B) of the changes; the coder has no fade."""
    low, high = coder[:2]
    return sum(changes), level_behind(coder, changes, low), level_behind(coder, changes, high)


def levels_behind(coder, changes):
    """The list of the levels to which changes lead the levels from LOW to HIGH."""
    low, high, fade = coder[0], coder[1], coder[4]
    if fade == 0:
        total, least, most = limits_behind(coder, changes)
        return [limited(level + total, least, most) for level in range(low, high + 1)]
    # All levels go by each change together, by their indexes: long rows repeat few changes.
    left = [faded(level, fade) for level in range(low, high + 1)]
    led = {}
    for change in sorted(set(changes)):
        led[change] = [limited(level + change, low, high) - low for level in left]
    indexes = list(range(len(left)))
    for change in changes:
        behind = led[change]
        indexes = [behind[index] for index in indexes]
    return [low + index for index in indexes]

"""To which levels and places rows lead: [6]."""

from stepsound.coders import need_coder
from stepsound.errors import OutOfPlace
from stepsound.kinds import need_few_states, need_place, need_row
from stepsound.levels import changes_along, levels_behind, limits_behind


def row_map(coder, row, place):
    """The map of a row at a place, and the place behind the row."""
    need_coder(coder)
    need_few_states(coder, 4096)
    need_row(coder, row)
    need_place(coder, place)
    changes, behind = changes_along(coder, row, place)
    return tuple(levels_behind(coder, changes)), behind


def limits_of(coder, row, place):
    """(D, A, B, PLACE): the three integers of a row's map at a place, and the place behind the row."""
    need_coder(coder)
    if coder[4] != 0:
        raise OutOfPlace("a coder with a fade")
    need_row(coder, row)
    need_place(coder, place)
    changes, behind = changes_along(coder, row, place)
    total, least, most = limits_behind(coder, changes)
    return total, least, most, behind

"""Rows stored in blocks of bytes, and what can be read of them: [19], [20].

A block has the mark, two bytes of the level, the place, the number of codes,
the codes and the sum, in this order.
"""

from stepsound.coders import need_coder
from stepsound.errors import BadByte, OutOfPlace, TooGreat
from stepsound.kinds import MOST_CODES, is_between, is_integer, need_row, need_state
from stepsound.moves import samples_along, state_behind_row

MARK = (165, 90)
# So many bytes stand ahead of the codes of a block.
HEAD = 6


def file_of(coder, row, size, *, state=(0, 0)):
    """The file of a row from a state, in blocks of so many codes."""
    need_coder(coder)
    need_row(coder, row)
    if not is_between(size, 1, 255):
        raise OutOfPlace("no number from 1 to 255")
    need_state(coder, state)
    data = []
    now = state
    for begin in range(0, len(row), size):
        codes = row[begin:begin + size]
        data.extend(_block_of(codes, now))
        now = state_behind_row(coder, codes, now)
    return tuple(data)


def read_file(coder, data):
    """The state in which the row of a file begins, and the row."""
    _need_coder_and_tuple(coder, data)
    first = (0, 0)
    codes = []
    known = None
    index = 0
    while index < len(data):
        state, row, end = _block_at(coder, data, index, known)
        if index == 0:
            first = state
        codes.extend(row)
        known = state_behind_row(coder, row, state)
        index = end
    if len(codes) > MOST_CODES:
        raise TooGreat(MOST_CODES)
    return first, tuple(codes)


def sample_in(coder, data, number):
    """The sample of an index in a file that is right, found by its blocks."""
    _need_coder_and_tuple(coder, data)
    if not is_integer(number) or number < 0:
        raise OutOfPlace("no integer from 0 on")
    index = 0
    left = number
    while index < len(data):
        many = _byte_between(data, index + HEAD - 1, 1, 255)
        if left < many:
            state, row, _ = _block_at(coder, data, index, None)
            return samples_along(coder, row[:left + 1], state)[-1]
        left = left - many
        index = _sum_index(index, many) + 1
    raise OutOfPlace("no index of a sample in the file")


def salvage(coder, data):
    """The list of (INDEX, STATE, ROW) of the blocks that can still be read."""
    _need_coder_and_tuple(coder, data)
    found = []
    index = 0
    while index < len(data):
        try:
            state, row, end = _block_at(coder, data, index, None)
        except BadByte:
            index = index + 1
        else:
            found.append((index, state, row))
            index = end
    return found


def _need_coder_and_tuple(coder, data):
    need_coder(coder)
    if not isinstance(data, tuple):
        raise BadByte(None)


def _block_of(codes, state):
    """The list of the bytes of a block of codes that begins in a state."""
    level, place = state
    word = level + 65536 if level < 0 else level
    body = [word // 256, word % 256, place, len(codes)]
    for index in range(0, len(codes), 2):
        later = codes[index + 1] if index + 1 < len(codes) else 0
        body.append(codes[index] + 16 * later)
    return list(MARK) + body + [sum(body) % 256]


def _sum_index(begin, many):
    """The index of the sum of a block of MANY codes, the block beginning at an index."""
    return begin + HEAD + (many + 1) // 2


def _block_at(coder, data, begin, known):
    """(STATE, ROW, END) of the block at an index; it begins in the KNOWN state, in any one if that is None."""
    for index, byte in enumerate(MARK):
        if _byte_at(data, begin + index) != byte:
            raise BadByte(begin + index)
    state = _state_at(coder, data, begin + 2, known)
    many = _byte_between(data, begin + HEAD - 1, 1, 255)
    row = _codes_at(coder, data, begin + HEAD, many)
    last = _sum_index(begin, many)
    total = sum(data[begin + 2:last]) % 256
    _byte_between(data, last, total, total)
    return state, row, last + 1


def _byte_at(data, index):
    """The byte of an index, all things ahead of it being bytes."""
    if index >= len(data) or not is_between(data[index], 0, 255):
        raise BadByte(index)
    return data[index]


def _byte_between(data, index, least, most):
    byte = _byte_at(data, index)
    if not least <= byte <= most:
        raise BadByte(index)
    return byte


def _state_at(coder, data, index, known):
    """The state of a block, whose bytes begin at an index."""
    low, high = coder[:2]
    least, most = 0, len(coder[2]) - 1
    if known is not None:
        low, high = known[0], known[0]
        least, most = known[1], known[1]
    greater = _byte_at(data, index)
    base = 256 * greater if greater < 128 else 256 * greater - 65536
    # Some level from LOW to HIGH has the greater byte.
    if base > high or base + 255 < low:
        raise BadByte(index)
    level = base + _byte_at(data, index + 1)
    if not low <= level <= high:
        raise BadByte(index + 1)
    return level, _byte_between(data, index + 2, least, most)


def _codes_at(coder, data, begin, many):
    """The row of so many codes, whose bytes begin at an index."""
    last = len(coder[3]) - 1
    row = []
    for index in range(begin, begin + (many + 1) // 2):
        byte = _byte_at(data, index)
        # Behind the last one of an odd number of codes, the upper bits are 0.
        greatest = last if len(row) + 2 <= many else 0
        if byte % 16 > last or byte // 16 > greatest:
            raise BadByte(index)
        row.append(byte % 16)
        row.append(byte // 16)
    return tuple(row[:many])

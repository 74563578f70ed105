"""[19] and [20] told a second time, by the set of the bytes that can stand behind others, without the package."""

from functools import cache

from tests.things import states, told_row


def told_block(codes, state):
    level, place = state
    pairs = list(codes) + [0] * (len(codes) % 2)
    body = list(divmod(level % 65536, 256)) + [place, len(codes)]
    body += [pairs[index] | pairs[index + 1] << 4 for index in range(0, len(pairs), 2)]
    return (165, 90) + tuple(body) + (sum(body) & 255,)


def told_file(coder, row, sizes, state):
    """The file of a row in blocks of the sizes, the last one again and again."""
    sizes = list(sizes)
    data = ()
    while row:
        many = sizes.pop(0) if len(sizes) > 1 else sizes[0]
        data += told_block(row[:many], state)
        row, state = row[many:], told_row(coder, row[:many], state)[1]
    return data


@cache
def told_heads(begins):
    """(STATES, NEXT): the states by their three bytes, and the bytes that can stand behind none, one or two of them."""
    heads = {divmod(level % 65536, 256) + (place,): (level, place) for level, place in begins}
    following = {}
    for head in heads:
        for many in range(3):
            following.setdefault(head[:many], set()).add(head[many])
    return heads, following


@cache
def all_heads(coder):
    return told_heads(tuple(states(coder)))


class Reader:
    """Reads one block byte by byte; it begins in the state, or in any one if that is None."""

    def __init__(self, coder, state=None):
        self.moves = range(len(coder[3]))
        self.heads, self.following = all_heads(coder) if state is None else told_heads((state,))
        self.block = []

    def bytes_here(self):
        """The set of the bytes that can stand next, None behind a whole block."""
        block = tuple(self.block)
        here = len(block)
        if here < 2:
            return {(165, 90)[here]}
        if here < 5:
            return self.following[block[2:]]
        if here == 5:
            return set(range(1, 256))
        left = block[5] - 2 * (here - 6)
        if left > 1:
            return {one + 16 * other for one in self.moves for other in self.moves}
        if left == 1:
            return set(self.moves)
        end = 6 + (block[5] + 1) // 2
        return {sum(block[2:]) % 256} if here == end else None

    def take(self, thing):
        """True if the thing can stand next."""
        if type(thing) is not int or thing not in self.bytes_here():
            return False
        self.block.append(thing)
        return True

    def state_and_row(self):
        codes = [code for byte in self.block[6:-1] for code in (byte % 16, byte // 16)]
        return self.heads[tuple(self.block[2:5])], tuple(codes[:self.block[5]])


def told_read(coder, data):
    """(STATE, ROW) of a file, or the index of the first thing that cannot stand there."""
    first, row, state = (0, 0), (), None
    reader = None
    for index, thing in enumerate(data):
        if reader is None:
            reader = Reader(coder, state)
        if not reader.take(thing):
            return index
        if reader.bytes_here() is None:
            begin, codes = reader.state_and_row()
            first = begin if state is None else first
            row, state, reader = row + codes, told_row(coder, codes, begin)[1], None
    return (first, row) if reader is None else len(data)


def told_salvage(coder, data):
    found, index = [], 0
    while index < len(data):
        reader = Reader(coder)
        end = index
        while reader.bytes_here() is not None and end < len(data) and reader.take(data[end]):
            end += 1
        if reader.bytes_here() is None:
            found.append((index,) + reader.state_and_row())
        index = end if reader.bytes_here() is None else index + 1
    return found

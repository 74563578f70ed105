"""The errors that calls of the package raise.

An error may be made of any things; so none of them is looked at or written
out when the error is made.
"""


class BadCoder(ValueError):
    """A value that is no coder: its wrong part, and the index in it or None."""

    def __init__(self, part, number):
        self.part = part
        self.number = number


class BadRow(ValueError):
    """A row, or the row of a text, with a word that cannot stand there."""

    def __init__(self, row, word):
        self.row = row
        self.word = word


class BadPaper(ValueError):
    """A paper that proves nothing: its wrong part, and the index in it or None."""

    def __init__(self, part, number):
        self.part = part
        self.number = number


class BadByte(ValueError):
    """A tuple that is no file: the index of the first byte that cannot stand there."""

    def __init__(self, number):
        self.number = number


class OutOfPlace(ValueError):
    """A thing that is not of the kind, or not within the bounds, that are told."""

    def __init__(self, text):
        ValueError.__init__(self, text)


class NoSeam(ValueError):
    """Two clips between which there is no seam."""

    def __init__(self, text):
        ValueError.__init__(self, text)


class TooGreat(OverflowError):
    """More than the most that is told."""

    def __init__(self, most):
        self.most = most


class Nothing(LookupError):
    """There is nothing to undo or to do again."""

    def __init__(self, text):
        LookupError.__init__(self, text)

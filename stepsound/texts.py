"""The texts of coders and of rows: [21], [22]."""

from stepsound.coders import need_coder
from stepsound.errors import BadRow
from stepsound.kinds import MOST_CODES, is_code, need_row

DIGITS = "0123456789"


def coder_text(coder):
    """The text of a coder, without a line feed at the end."""
    low, high, steps, moves, fade = need_coder(coder)
    rows = [f"levels {low} {high} {fade}", f"steps {_spaced(steps)}"]
    return "\n".join(rows + [f"move {share} {turn}" for share, turn in moves])


def read_coder(text):
    """The coder of a text."""
    _need_text(text)
    rows = [row.split(" ") for row in text.split("\n")]
    for index, words in enumerate(rows):
        _need_coder_row(index, words)
    if len(rows) < 2:
        raise BadRow(2, 0)
    low, high, fade = _numbers_of(rows[0])
    steps = _numbers_of(rows[1])
    moves = tuple([_numbers_of(words) for words in rows[2:]])
    return need_coder((low, high, steps, moves, fade))


def row_text(coder, row):
    """The text of a row of at most 2,000 codes."""
    need_coder(coder)
    need_row(coder, row)
    return _spaced(row)


def read_row(coder, text):
    """The row of a text."""
    need_coder(coder)
    _need_text(text)
    if text == "":
        return ()
    words = text.split(" ")
    _need_no_empty_word(1, words)
    for index, word in enumerate(words):
        if index == MOST_CODES or not _is_number(word) or not is_code(coder, int(word)):
            raise BadRow(1, index + 1)
    return tuple([int(word) for word in words])


def _spaced(numbers):
    return " ".join([str(number) for number in numbers])


def _need_text(thing):
    if not isinstance(thing, str):
        raise BadRow(0, 0)


def _need_no_empty_word(row, words):
    """Refuse a row with an empty word ahead of whatever else is wrong in it."""
    if "" in words:
        raise BadRow(row, 0)


def _need_coder_row(index, words):
    """Refuse the row of this index, from 0 on, by the first word that cannot stand in it."""
    if index == 0:
        _need_row_form(index + 1, words, "levels", 3, 3)
    elif index == 1:
        # Too many steps are no fault of the row's form: the coder is refused for them.
        _need_row_form(index + 1, words, "steps", 1, len(words))
    else:
        _need_row_form(index + 1, words, "move", 2, 2)


def _need_row_form(row, words, name, least, most):
    """Refuse what is not the NAME and LEAST to MOST numbers."""
    _need_no_empty_word(row, words)
    if words[0] != name:
        raise BadRow(row, 1)
    for index in range(1, len(words)):
        if index > most or not _is_number(words[index]):
            raise BadRow(row, index + 1)
    if len(words) <= least:
        raise BadRow(row, len(words) + 1)


def _is_number(word):
    """True if the word is a number by its form: a decimal one of at most five digits."""
    digits = word[1:] if word.startswith("-") else word
    if not 1 <= len(digits) <= 5:
        return False
    # Not isdigit: it is true of digits of other scripts, too.
    if not all([sign in DIGITS for sign in digits]):
        return False
    return word == "0" or digits[0] != "0"


def _numbers_of(words):
    """The numbers behind the name of a row."""
    return tuple([int(word) for word in words[1:]])

"""Families and conditions, read from their texts."""

from guessrests.errors import BadText
from guessrests.families import check_family, columns_of
from guessrests.tokens import TokenReader
from guessrests.words import is_alphabet

_HEADS = ("names", "things", "start", "marks")
_PAIRS = {"&": "both", "/": "either"}
_BINDERS = {"?": "some", "*": "each"}
_SIMPLE = {"in": "in", "fits": "fits", "=": "same", "<": "before"}


def read_family(text):
    """Return the family of the text. Raise BadText if it cannot be read, then NoFamily if it is not valid."""
    lines = text.split("\n")
    parts = []
    for number, line in enumerate(lines):
        if line.strip(" "):
            parts.append(_line_read(TokenReader(line, number), parts))
    # A family has at least one state.
    if len(parts) <= len(_HEADS):
        raise BadText(len(lines), 0)
    family = (parts[0], parts[1], parts[2], parts[3], tuple(parts[4:]))
    check_family(family)
    return family


def read_condition(text):
    """Return the condition of the text, which need not be valid. Raise BadText if it cannot be read."""
    reader = TokenReader(text, 0)
    condition = _condition_read(reader)
    reader.take_end()
    return condition


def _line_read(reader, parts):
    """Return the part of a family that stands in the line behind these parts."""
    number = len(parts)
    if number < len(_HEADS):
        reader.take(_HEADS[number])
    if number < 2:
        part = reader.take_if(is_alphabet(reader.token()))
    elif number == 2:
        part = reader.take_number()
    elif number == 3:
        part = _marks_read(reader)
    else:
        part = _row_read(reader, number - len(_HEADS), columns_of(parts))
    reader.take_end()
    return part


def _marks_read(reader):
    """Return the tuple of the marks, of which there may be none."""
    marks = []
    if reader.token():
        marks.append(reader.take_number())
        while reader.token() == ",":
            reader.take(",")
            marks.append(reader.take_number())
    return tuple(marks)


def _row_read(reader, state, columns):
    """Return the tuple of the states behind the columns of a state."""
    reader.take(str(state))
    row = []
    for left, right in columns:
        reader.take("," if row else ":")
        reader.take(left or "-")
        reader.take("/")
        reader.take(right or "-")
        row.append(reader.take_number())
    return tuple(row)


def _condition_read(reader):
    """Return the condition that begins with the next token."""
    sign = reader.token()
    if sign == "!":
        reader.take("!")
        return "not", _condition_read(reader)
    if sign == "[":
        return _pair_read(reader)
    if sign in ("?", "*"):
        reader.take(sign)
        variable = reader.take_word()
        kind = reader.take("name", "thing", "length")
        return _BINDERS[sign], variable, kind, _condition_read(reader)
    one = reader.take_word()
    word = _SIMPLE[reader.take("in", "fits", "=", "<")]
    return word, one, reader.take_word()


def _pair_read(reader):
    """Return the condition of two parts that begins with the next token."""
    reader.take("[")
    one = _condition_read(reader)
    word = _PAIRS[reader.take("&", "/")]
    other = _condition_read(reader)
    reader.take("]")
    return word, one, other

"""The tokens of a line of a text, read from left to right."""

from guessrests.errors import BadText

_LETTERS = "abcdefghijklmnopqrstuvwxyz"
_DIGITS = "0123456789"
_SIGNS = ":,/-=<![]&?*"
# These two stand in the place of a token: behind the last one, and where none begins.
_END = ""
_NONE = " "


class TokenReader:
    """A line of a text that is read token by token; `line` is its index. What does not fit raises BadText."""

    def __init__(self, text, line):
        self.line = line
        self.tokens = _tokens_of(text)
        self.place = 0

    def token(self):
        """Return the token that is read next."""
        return self.tokens[self.place][1]

    def take_if(self, fits):
        """Return the next token and go on behind it, if it fits."""
        at, token = self.tokens[self.place]
        if not fits:
            raise BadText(self.line, at)
        self.place += 1
        return token

    def take(self, *wanted):
        """Return the next token, which must be one of these."""
        return self.take_if(self.token() in wanted)

    def take_word(self):
        """Return the next token, which must be a run of letters."""
        return self.take_if(_begins_with(self.token(), _LETTERS))

    def take_number(self):
        """Return the number of the next token, which must be a run of digits."""
        return int(self.take_if(_begins_with(self.token(), _DIGITS)))

    def take_end(self):
        """Check that the line ends here."""
        self.take(_END)


def _tokens_of(text):
    """Return the list of (place in the text, token), with _END or _NONE at last."""
    tokens = []
    at = _behind(text, 0, " ")
    while at < len(text):
        end = _end_of_token(text, at)
        if end is None:
            return tokens + [(at, _NONE)]
        tokens.append((at, text[at:end]))
        at = _behind(text, end, " ")
    return tokens + [(at, _END)]


def _end_of_token(text, at):
    """Return the place behind the token that begins at the place, or None if none begins there."""
    if text[at] in _SIGNS:
        return at + 1
    if text[at] in _LETTERS:
        return _behind(text, at, _LETTERS)
    end = _behind(text, at, _DIGITS)
    if end == at or (text[at] == "0" and end > at + 1):
        return None
    return end


def _behind(text, at, letters):
    """Return the first place from `at` on that has none of these letters."""
    end = at
    while end < len(text) and text[end] in letters:
        end += 1
    return end


def _begins_with(token, letters):
    """Tell if the token begins with one of these letters."""
    return token != _END and token[0] in letters

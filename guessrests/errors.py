"""The errors that the program raises."""


class GuessError(ValueError):
    """The base class of all errors of the program."""


class NoFamily(GuessError):
    """What was given is not a family."""


class NoWord(GuessError):
    """A string is not a word over the alphabet that is asked for."""


class NoCondition(GuessError):
    """A condition is not valid with its told free variables."""


class HasBound(GuessError):
    """A teller was asked for a name with a bound, or a once-teller for one with a sure length."""


class Clash(GuessError):
    """A thing was heard both as belonging and as not belonging."""


class BadText(GuessError):
    """A text cannot be read from the place (line, at) on."""

    def __init__(self, line, at):
        super().__init__("the text cannot be read")
        self.line = line
        self.at = at

"""A listener, which guesses from the steps that it has heard."""

from guessrests.errors import NoWord
from guessrests.families import check_family
from guessrests.guessing import Guesser
from guessrests.words import is_word


class Listener:
    """A listener that has heard nothing. Raises NoFamily if what it is given is not a family."""

    def __init__(self, family):
        check_family(family)
        self._things = family[1]
        self._guesser = Guesser(family)
        self._heard = []
        # The guess before all steps, and the one behind each step.
        self._guesses = [self._guesser.guess_for([])]

    @property
    def guess(self):
        """The guess for all things that were heard."""
        return self._guesses[-1]

    @property
    def changes(self):
        """The number of steps behind which the guess is another one than before."""
        pairs = list(zip(self._guesses, self._guesses[1:]))
        return len([1 for before, behind in pairs if before != behind])

    @property
    def heard(self):
        """The tuple of the steps, with None for a pause."""
        return tuple(self._heard)

    def hear(self, thing):
        """Add a thing and return the guess. Raise NoWord if the string is not a thing."""
        return self.hear_all([thing])

    def pause(self):
        """Add a pause and return the guess."""
        return self.hear_all([None])

    def hear_all(self, steps):
        """Add the things and pauses of a list and return the guess. Raise NoWord and add none if one is not a thing."""
        for step in steps:
            if step is not None and not is_word(self._things, step):
                raise NoWord("a string is not a thing of the family")
        for step in steps:
            self._guesses.append(self._guess_behind(step))
            self._heard.append(step)
        return self._guesses[-1]

    def undo(self):
        """Take the last step back. Return True, or False if there is none."""
        if not self._heard:
            return False
        self._heard.pop()
        self._guesses.pop()
        return True

    def _guess_behind(self, step):
        """Return the guess behind a further step."""
        # What was told before changes nothing in the set of the things.
        if step is None or step in self._heard:
            return self._guesses[-1]
        return self._guesser.guess_for([thing for thing in self._heard if thing is not None] + [step])

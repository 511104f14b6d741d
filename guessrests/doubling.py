"""A double listener, which hears of things whether they belong to the unknown set."""

from guessrests.errors import Clash, NoWord
from guessrests.families import check_family
from guessrests.guessing import guess_of_both
from guessrests.words import is_word


class DoubleListener:
    """A double listener that has heard nothing. Raises NoFamily if what it is given is not a family."""

    def __init__(self, family):
        check_family(family)
        self._family = family
        self._pairs = []
        # The guess before all pairs, and the one behind each pair.
        self._guesses = [guess_of_both(family, [], [])]

    @property
    def guess(self):
        """The guess for all pairs that were heard."""
        return self._guesses[-1]

    @property
    def changes(self):
        """The number of pairs behind which the guess is another one than before."""
        pairs = list(zip(self._guesses, self._guesses[1:]))
        return len([1 for before, behind in pairs if before != behind])

    @property
    def heard(self):
        """The tuple of the pairs."""
        return tuple(self._pairs)

    def hear(self, thing, there):
        """Add a pair and return the guess. Raise NoWord if the string is not a thing, then Clash if it contradicts."""
        if not is_word(self._family[1], thing):
            raise NoWord("a string is not a thing of the family")
        if (thing, 1 - there) in self._pairs:
            raise Clash("the thing was heard with the other number")
        self._guesses.append(self._guess_behind(thing, there))
        self._pairs.append((thing, there))
        return self._guesses[-1]

    def undo(self):
        """Take the last pair back. Return True, or False if there is none."""
        if not self._pairs:
            return False
        self._pairs.pop()
        self._guesses.pop()
        return True

    def _guess_behind(self, thing, there):
        """Return the guess behind a further pair."""
        pairs = self._pairs + [(thing, there)]
        yes = [one for one, belongs in pairs if belongs == 1]
        no = [one for one, belongs in pairs if belongs == 0]
        return guess_of_both(self._family, yes, no)

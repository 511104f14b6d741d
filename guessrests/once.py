"""A once-teller, which turns once away from its name, when the learner guesses it."""

from guessrests.errors import HasBound
from guessrests.fixing import with_word
from guessrests.names import alike, least_new_thing
from guessrests.ordering import least_word
from guessrests.traps import LENGTH, least_free_length, unlike_holders
from guessrests.values import letters_of, value_of


class OnceTeller:
    """A once-teller for a name that has no sure length. Raises HasBound if it has one."""

    def __init__(self, family, name):
        self._holders = unlike_holders(family, name, None)
        if least_free_length(self._holders) is not None:
            raise HasBound("the name has a sure length")
        self._family = family
        self._name = name
        self._target = name
        self._told = []

    @property
    def target(self):
        """The name whose things are told at this time."""
        return self._target

    @property
    def told(self):
        """The tuple of what was told in all rounds, with None for a pause."""
        return tuple(self._told)

    def tell(self, guess):
        """Put the target as it is behind the last round, with this guess, and return a thing of it or None, a pause."""
        if self._told and self._target == self._name and guess is not None:
            if alike(self._family, self._name, guess):
                self._target = self._least_unlike_holder()
        told = [thing for thing in self._told if thing is not None]
        thing = least_new_thing(self._family, self._target, told)
        self._told.append(thing)
        return thing

    def _least_unlike_holder(self):
        """Return the least name, not alike with the first target, that has all its things that are not too long."""
        n = max([len(thing) for thing in self._told if thing is not None], default=0)
        found = with_word(self._holders, LENGTH, letters_of(self._family, "length", n))
        return value_of(self._family, "name", least_word(found))

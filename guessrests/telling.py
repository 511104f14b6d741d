"""A teller, whose learner does not rest rightly on what is told."""

from guessrests.errors import HasBound
from guessrests.fixing import with_word
from guessrests.names import alike, least_new_thing
from guessrests.ordering import least_word
from guessrests.traps import LENGTH, least_free_length, traps
from guessrests.values import letters_of, value_of


class Teller:
    """A teller for a name that has no bound. Raises HasBound if it has one."""

    def __init__(self, family, name):
        self._traps = traps(family, name, None)
        if least_free_length(self._traps) is not None:
            raise HasBound("the name has a bound")
        self._family = family
        self._name = name
        self._target = name
        self._told = []

    @property
    def target(self):
        """The name whose things are told at this time."""
        return self._target

    @property
    def told(self):
        """The tuple of what was told in all rounds, with None for a pause."""
        return tuple(self._told)

    def tell(self, guess):
        """Put the target as it is behind the last round, with this guess, and return a thing of it or None, a pause."""
        if self._told:
            self._turn_to_target(guess)
        told = [thing for thing in self._told if thing is not None]
        thing = least_new_thing(self._family, self._target, told)
        self._told.append(thing)
        return thing

    def _turn_to_target(self, guess):
        """Put the target as it is after a round, when the learner makes this guess."""
        is_right = guess is not None and alike(self._family, self._name, guess)
        if self._target != self._name:
            if not is_right:
                self._target = self._name
        elif is_right:
            self._target = self._least_trap()

    def _least_trap(self):
        """Return the least trap for the name and the length of all that was told of it or comes next."""
        told = [thing for thing in self._told if thing is not None]
        # Of a name without a bound, something is always new.
        told.append(least_new_thing(self._family, self._name, told))
        n = max([len(thing) for thing in told])
        found = with_word(self._traps, LENGTH, letters_of(self._family, "length", n))
        return value_of(self._family, "name", least_word(found))

"""Guesses from told things."""

from guessrests.bounds import trap_for
from guessrests.demands import Demands
from guessrests.joining import both_hold, either_holds
from guessrests.meeting import least_name_meeting, names_meeting
from guessrests.names import least_new_thing
from guessrests.ordering import least_word
from guessrests.relations import NOTHING, opposite_relation, plain_relation
from guessrests.searching import least_row_without
from guessrests.sure import is_sure
from guessrests.traps import NAME, OTHER, names_above, names_below
from guessrests.values import value_of
from guessrests.words import number_of

# How many names are tried one by one before all of them are looked at together.
_TRIES = 4


def guess(family, things):
    """Return the guess for the things that are told, or None."""
    return Guesser(family).guess_for(things)


def first_guess(family, things):
    """Return the first guess for the things that are told, or None."""
    # If a name can be guessed, all names to which the things belong are alike with it.
    name = guess_of_both(family, things, [])
    if name is None:
        return None
    further = least_new_thing(family, name, things)
    if further == "":
        return None
    longest = max([len(thing) for thing in things], default=0)
    return name if is_sure(family, name, longest if further is None else len(further) - 1) else None


def guess_of_both(family, yes, no):
    """Return the least name to which all things of `yes` and none of `no` belong, or None."""
    return least_name_meeting(family, Demands(family[1], yes, no))


class Guesser:
    """Makes the guesses for one family.

    All told things belong to the name that is guessed, and the first further thing of it is
    longer than some bound: so each length below that of this thing is tested if it is a bound.
    """

    def __init__(self, family):
        self.family = family
        self.below = None

    def guess_for(self, things):
        """Return the guess for the set of these things, or None."""
        told = sorted(set(things))
        # If the further thing has no letters, there is no length below its own.
        barred = [] if "" in told else [""]
        holders = names_meeting(self.family, NAME, Demands(self.family[1], told, barred))
        names = holders
        for _ in range(_TRIES):
            name = value_of(self.family, "name", least_word(names))
            if name is None:
                return None
            further = least_new_thing(self.family, name, told)
            if further is None:
                return name
            trap = trap_for(self.family, name, len(further) - 1)
            if trap is None:
                return name
            # The trap catches many other names, too.
            names = both_hold(names, opposite_relation(self._names_caught(trap, told, len(further))))
        return self._least_of(holders, told)

    def _names_caught(self, trap, told, n):
        """Return the relation of the names that the trap catches, if a further thing of them has at most n letters."""
        just_told = self._names_with_just(_things_up_to(told, n), n)
        return both_hold(names_above(self.family, trap, NAME), opposite_relation(just_told))

    def _names_with_just(self, things, n):
        """Return the relation of the names that have all these things, and no others with at most n letters."""
        demands = Demands(self.family[1], things, [])
        demands.bar_others(n)
        return names_meeting(self.family, NAME, demands)

    def _least_of(self, holders, told):
        """Return the least of these names that is a guess for the told things, or None."""
        guesses = []
        done = plain_relation(NOTHING)
        # What is a trap for a length is one for each length with just the same told things, so
        # the lengths of the told things are enough, and of those that fit a name the greatest one.
        lengths = sorted(set([0] + [len(thing) for thing in told]))
        for n in reversed(lengths):
            things = _things_up_to(told, n)
            fitting = both_hold(holders, self._names_with_just(things, n))
            name = self._least_without_trap(both_hold(fitting, opposite_relation(done)), things)
            done = fitting
            if name is not None:
                guesses.append(name)
        return min(guesses, key=lambda word: number_of(self.family[0], word), default=None)

    def _least_without_trap(self, names, things):
        """Return the least of the names within which no unlike name lies to which the things belong, or None."""
        if names.start == NOTHING:
            return None
        if self.below is None:
            self.below = names_below(self.family)
        traps = both_hold(self.below, names_meeting(self.family, OTHER, Demands(self.family[1], things, [])))
        word = least_row_without(either_holds(traps, opposite_relation(names)), OTHER)
        return value_of(self.family, "name", word)


def _things_up_to(things, n):
    """Return the things with at most n letters."""
    return [thing for thing in things if len(thing) <= n]

"""Traps and bounds of names, and whether a family rests."""

from guessrests.ordering import least_word
from guessrests.traps import least_free_length, least_name_caught, traps
from guessrests.values import value_of
from guessrests.words import words_up_to


def trap_for(family, name, n):
    """Return the least trap for the name and the length, or None if there is none."""
    return value_of(family, "name", least_word(traps(family, name, n)))


def is_bound(family, name, n):
    """Tell if the length is a bound of the name."""
    return trap_for(family, name, n) is None


def least_bound(family, name):
    """Return the least bound of the name, or None if it has none."""
    return least_free_length(traps(family, name, None))


def verdict(family):
    """Return ("rests",) if each name has a bound, otherwise ("never", i) with the least name i that has none."""
    least = _least_without_bound(family)
    return ("rests",) if least is None else ("never", least)


def _least_without_bound(family):
    """Return the least name that has no bound, or None."""
    # One of the shortest names often settles it, and needs much less than all names at once.
    for name in words_up_to(family[0], 1):
        if least_bound(family, name) is None:
            return name
    return value_of(family, "name", least_name_caught(family, traps(family, None, None)))

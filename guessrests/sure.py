"""Sure lengths of names, and whether a family is sure."""

from guessrests.ordering import least_word
from guessrests.traps import least_free_length, least_name_caught, outdone_names, unlike_holders
from guessrests.values import value_of
from guessrests.words import number_of, words_up_to


def unlike_holder(family, name, n):
    """Return the least name, not alike with the name, to which all its things up to n belong, or None."""
    return value_of(family, "name", least_word(unlike_holders(family, name, n)))


def is_sure(family, name, n):
    """Tell if the length is sure for the name."""
    return unlike_holder(family, name, n) is None


def least_sure(family, name):
    """Return the least sure length of the name, or None if it has none."""
    return least_free_length(unlike_holders(family, name, None))


def first_verdict(family):
    """Return ("sure",) if each name has a sure length, otherwise ("unsure", i) with the least name i that has none."""
    least = _least_without_sure(family)
    return ("sure",) if least is None else ("unsure", least)


def _least_without_sure(family):
    """Return the least name that has no sure length, or None."""
    # One of the shortest names often settles it, and needs much less than all names at once.
    for name in words_up_to(family[0], 1):
        if least_sure(family, name) is None:
            return name
    # A name that lies within an unlike one has no sure length; unlike_holders leaves these out.
    words = [least_word(outdone_names(family)), least_name_caught(family, unlike_holders(family, None, None))]
    names = [value_of(family, "name", word) for word in words if word is not None]
    return min(names, key=lambda name: number_of(family[0], name), default=None)

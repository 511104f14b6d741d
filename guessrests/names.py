"""Single names: their things, and how two of them compare."""

from guessrests.atoms import belonging
from guessrests.joining import just_one_holds
from guessrests.ordering import Ranking, count_of_words, words_with_at_most
from guessrests.readings import least_thing_where, things_of_name
from guessrests.searching import least_row_without
from guessrests.values import value_of

# The tracks of the relations that are made here.
_OTHER = 0
_THING = 1


def within(family, name, other):
    """Tell if the name lies within the other one."""
    return parting_thing(family, name, other) is None


def alike(family, name, other):
    """Tell if the two names have the same set."""
    return least_thing_where(family, [name, other], lambda there: there[0] != there[1]) is None


def parting_thing(family, name, other):
    """Return the least thing that belongs to the name and not to the other one, or None."""
    return least_thing_where(family, [name, other], lambda there: there[0] and not there[1])


def things_up_to(family, name, n):
    """Return the tuple of the things of the name with at most n letters, in order."""
    words = words_with_at_most(things_of_name(family, name, _THING), len(family[1]), n)
    return tuple([value_of(family, "thing", word) for word in words])


def thing_at(family, name, n):
    """Return the n-th thing of the name, or None if n is below 0 or there are not so many."""
    word = Ranking(things_of_name(family, name, _THING), len(family[1])).word_at(n)
    return value_of(family, "thing", word)


def least_new_thing(family, name, things):
    """Return the least thing of the name that is not in the list, or None."""
    told = {thing: True for thing in things}
    ranking = Ranking(things_of_name(family, name, _THING), len(family[1]))
    # Of one thing more than the told ones, at least one is new.
    for n in range(len(told) + 1):
        word = ranking.word_at(n)
        if word is None:
            return None
        thing = value_of(family, "thing", word)
        if thing not in told:
            return thing
    return None


def count_of(family, name):
    """Return the number of things of the name, or None if there are endlessly many."""
    return count_of_words(things_of_name(family, name, _THING))


def least_alike(family, name):
    """Return the least name that is alike with the name."""
    own = things_of_name(family, name, _THING)
    unlike = just_one_holds(own, belonging(family, _THING, _OTHER))
    return value_of(family, "name", least_row_without(unlike, _THING))

"""Families compared, and the different sets of a family."""

from guessrests.atoms import belonging, earlier_word
from guessrests.families import columns_of
from guessrests.joining import both_hold, just_one_holds
from guessrests.ordering import Ranking, count_of_words
from guessrests.projecting import some_word
from guessrests.readings import ReadName, least_thing_read, least_thing_where
from guessrests.relations import opposite_relation
from guessrests.searching import least_row_with, least_row_without
from guessrests.values import value_of

# The tracks of the relations that are made here.
_NAME = 0
_OTHER = 1
_THING = 2


def opposite(family):
    """Return the family in which just the other things belong to each name."""
    names, things, start, marks, steps = family
    return names, things, start, tuple([state for state in range(len(steps)) if state not in marks]), steps


def swapped(family):
    """Return the family with names and things exchanged."""
    names, things, start, marks, steps = family
    places = {column: at for at, column in enumerate(columns_of(family))}
    turned = [places[(name, thing)] for thing, name in columns_of((things, names))]
    return things, names, start, marks, tuple([tuple([row[at] for at in turned]) for row in steps])


def difference(family, other):
    """Return the least name with different sets, and the least thing in just one of them, or None."""
    unlike = just_one_holds(belonging(family, _THING, _NAME), belonging(other, _THING, _NAME))
    name = value_of(family, "name", least_row_with(unlike, _THING))
    if name is None:
        return None
    readers = [ReadName(family, name), ReadName(other, name)]
    return name, least_thing_read(readers, family[1], lambda there: there[0] != there[1])


def foreign_name(family, other):
    """Return the least name whose set is the set of no name of the other family, or None."""
    return value_of(family, "name", least_row_without(opposite_relation(_unlike_names(family, other)), _OTHER))


def count_sets(family):
    """Return the number of different sets of the family, or None if there are endlessly many."""
    return count_of_words(_first_names(family))


def first_name_at(family, n):
    """Return the n-th first name, or None if n is below 0 or there are not so many."""
    return value_of(family, "name", Ranking(_first_names(family), len(family[0])).word_at(n))


def thing_of_all(family, names):
    """Return the least thing that belongs to all the names, or None."""
    return least_thing_where(family, names, lambda there: all(there))


def thing_of_one(family, names):
    """Return the least thing that belongs to just one place of the list of names, or None."""
    return least_thing_where(family, names, lambda there: sum(there) == 1)


def _unlike_names(family, other):
    """Return the relation of the names of the first and of the other family that have different sets."""
    return some_word(just_one_holds(belonging(family, _THING, _NAME), belonging(other, _THING, _OTHER)), _THING)


def _first_names(family):
    """Return the relation of the names with which no earlier name is alike."""
    earlier = earlier_word(_OTHER, _NAME, len(family[0]))
    alike = opposite_relation(_unlike_names(family, family))
    return opposite_relation(some_word(both_hold(earlier, alike), _OTHER))

"""The relations from which bounds and sure lengths are read off.

They speak of a name, of another name on the track OTHER, and of a length. A name that is
None is on the track NAME, and a length that is None is on the track LENGTH; otherwise they
are told. If the name is not told, the relations leave out all lengths below that of the
name: what holds for all greater lengths holds for these, too, and without them there is
much less to tell apart.
"""

from guessrests.atoms import belonging, no_longer
from guessrests.fixing import with_word
from guessrests.joining import both_hold, either_holds, just_one_holds
from guessrests.projecting import some_word
from guessrests.readings import things_of_name
from guessrests.relations import ALL, opposite_relation, plain_relation
from guessrests.searching import least_row_without
from guessrests.values import letters_of, size_of

NAME = 0
OTHER = 1
LENGTH = 2
_THING = 3


def traps(family, name, length):
    """Return the relation of the other names that are traps for the name and the length."""
    missing, further, _ = _differences(family, name)
    wrong = either_holds(both_hold(missing, _fitting(family, length)), further)
    kept_out = either_holds(wrong, opposite_relation(_long_enough(family, name)))
    harmless = opposite_relation(some_word(kept_out, _THING))
    return some_word(both_hold(missing, harmless), _THING)


def unlike_holders(family, name, length):
    """Return the relation of the other names, unlike the name, to which all its things up to the length belong.

    If the name is not told, the names that lie within other ones, not alike, are left out.
    """
    missing, further, unlike = _differences(family, name)
    asked = both_hold(some_word(unlike, _THING), _long_enough(family, name))
    if name is None:
        asked = both_hold(asked, opposite_relation(_outdone(missing, further)))
    wrong = either_holds(both_hold(missing, _fitting(family, length)), opposite_relation(asked))
    return opposite_relation(some_word(wrong, _THING))


def outdone_names(family):
    """Return the relation of the names, on the track NAME, that lie within another name that is not alike."""
    missing, further, _ = _differences(family, None)
    return _outdone(missing, further)


def least_name_caught(family, catching):
    """Return the word of the least name for which `catching`, with nothing told, holds another name at each length."""
    free = opposite_relation(some_word(catching, OTHER))
    return least_row_without(both_hold(free, _long_enough(family, None)), LENGTH)


def least_free_length(catching):
    """Return the least length for which `catching`, with a told name, holds no other name, or None."""
    word = least_row_without(catching, OTHER)
    return None if word is None else len(word)


def _differences(family, name):
    """Return the relations of the things of just the name, of just the other one, and of just one of both."""
    own = belonging(family, _THING, NAME) if name is None else things_of_name(family, name, _THING)
    other = belonging(family, _THING, OTHER)
    missing = both_hold(own, opposite_relation(other))
    further = both_hold(other, opposite_relation(own))
    return missing, further, just_one_holds(own, other)


def _fitting(family, length):
    """Return the relation of the things that have at most as many letters as the length tells."""
    fitting = no_longer(_THING, size_of(family, "thing"), LENGTH, 1)
    if length is None:
        return fitting
    return with_word(fitting, LENGTH, letters_of(family, "length", length))


def _long_enough(family, name):
    """Return the relation of the lengths that are not left out."""
    if name is not None:
        return plain_relation(ALL)
    return no_longer(NAME, size_of(family, "name"), LENGTH, 1)


def _outdone(missing, further):
    """Return the relation of the names that lack nothing of another one to which something further belongs."""
    holding = opposite_relation(some_word(missing, _THING))
    return some_word(some_word(both_hold(further, holding), _THING), OTHER)


def names_above(family, name, track):
    """Return the relation of the names, on the track, within which the name lies and that are not alike with it."""
    own = things_of_name(family, name, _THING)
    other = belonging(family, _THING, track)
    missing = both_hold(own, opposite_relation(other))
    further = both_hold(other, opposite_relation(own))
    return both_hold(some_word(further, _THING), opposite_relation(some_word(missing, _THING)))


def names_below(family):
    """Return the relation of the names and the other names that lie within them and are not alike with them."""
    missing, further, _ = _differences(family, None)
    return both_hold(some_word(missing, _THING), opposite_relation(some_word(further, _THING)))

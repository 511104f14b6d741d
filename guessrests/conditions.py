"""Conditions: whether they are valid, and for which values they hold."""

from guessrests.deciding import holds_for, least_word_of, relation_of
from guessrests.errors import NoCondition
from guessrests.leastrows import least_row_of_words
from guessrests.ordering import Ranking, count_of_words
from guessrests.values import size_of, value_of
from guessrests.words import is_word

_KINDS = ("name", "thing", "length")
_LETTERS = "abcdefghijklmnopqrstuvwxyz"


def check_condition(condition, free):
    """Raise NoCondition if the condition is not valid with these free variables."""
    _check_part(condition, dict(free))


def is_true(family, condition):
    """Tell if the condition, which has no free variables, is true."""
    return holds_for(family, condition, (), ())


def holds(family, condition, free, values):
    """Tell if the condition holds for these values of its free variables."""
    return holds_for(family, condition, free, values)


def least_value(family, condition, free):
    """Return the least value for which the condition holds, or None."""
    return value_of(family, free[0][1], least_word_of(family, condition, free))


def value_at(family, condition, free, n):
    """Return the n-th value for which the condition holds, or None if n is below 0 or there are not so many."""
    kind = free[0][1]
    ranking = Ranking(relation_of(family, condition, free), size_of(family, kind))
    return value_of(family, kind, ranking.word_at(n))


def least_row(family, condition, free):
    """Return the least row of values for which the condition holds, as a tuple, or None."""
    relation = relation_of(family, condition, free)
    words = least_row_of_words(relation)
    if words is None:
        return None
    word_of = {track: word for track, word in zip(relation.tracks, words)}
    # A variable that makes no difference has the least value of its kind.
    return tuple([value_of(family, kind, word_of.get(track, [])) for track, (_, kind) in enumerate(free)])


def count_values(family, condition, free):
    """Return the number of values for which the condition holds, or None if there are endlessly many."""
    return count_of_words(relation_of(family, condition, free))


def _check_part(condition, kind_of):
    """Raise NoCondition if the part is not valid where these variables have these kinds."""
    word = condition[0]
    if word in ("not", "both", "either"):
        for part in condition[1:]:
            _check_part(part, kind_of)
    elif word in ("some", "each"):
        variable, kind, part = condition[1:]
        _check_variable(variable)
        if kind not in _KINDS:
            raise NoCondition("a kind is not one of the three")
        inner = dict(kind_of)
        inner[variable] = kind
        _check_part(part, inner)
    else:
        _check_variables(condition, kind_of)


def _check_variables(condition, kind_of):
    """Raise NoCondition if the two variables of one of the simplest conditions do not fit it."""
    word, one, two = condition
    _check_variable(one)
    _check_variable(two)
    if one not in kind_of or two not in kind_of:
        raise NoCondition("a variable is neither bound nor told")
    kinds = (kind_of[one], kind_of[two])
    if word == "in":
        fits = kinds == ("thing", "name")
    elif word == "fits":
        fits = kinds == ("thing", "length")
    else:
        fits = kinds[0] == kinds[1]
    if not fits:
        raise NoCondition("a variable has a wrong kind")


def _check_variable(variable):
    """Raise NoCondition if the string is not a variable."""
    if not variable or not is_word(_LETTERS, variable):
        raise NoCondition("a variable is not a word of letters")

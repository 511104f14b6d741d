"""Families, the columns of their machines, and which thing belongs to which name."""

from guessrests.errors import NoFamily
from guessrests.words import is_alphabet


def check_family(family):
    """Raise NoFamily if the tuple is not a family."""
    names, things, start, marks, steps = family
    if not is_alphabet(names) or not is_alphabet(things):
        raise NoFamily("names and things are not both alphabets")
    count = len(steps)
    # Without any states, no start is one of them.
    if not _are_states((start,), count):
        raise NoFamily("the start is not a state")
    if not _are_states(marks, count) or not _ascend(marks):
        raise NoFamily("the marks are not states in ascending order")
    width = len(columns_of(family))
    for row in steps:
        if len(row) != width or not _are_states(row, count):
            raise NoFamily("a row has not just one state for each column")


def columns_of(family):
    """Return the tuple of the columns in order, as pairs in which "" is the blank."""
    lefts = list(family[0]) + [""]
    rights = list(family[1]) + [""]
    pairs = [(left, right) for left in lefts for right in rights]
    # The pair of two blanks comes last, and is no column.
    return tuple(pairs[:-1])


def belongs(family, name, thing):
    """Tell if the thing belongs to the name."""
    names, things, start, marks, steps = family
    state = start
    for at in range(max(len(name), len(thing))):
        # A slice behind the end of a word is empty, and so it is the blank.
        left = _place_of(names, name[at:at + 1])
        right = _place_of(things, thing[at:at + 1])
        state = steps[state][left * (len(things) + 1) + right]
    return state in marks


def _place_of(alphabet, letter):
    """Return the place of a letter or the blank, which comes last, in its part of the columns."""
    return alphabet.index(letter) if letter else len(alphabet)


def _are_states(numbers, count):
    """Tell if each of the numbers is one of that many states."""
    return all([0 <= number < count for number in numbers])


def _ascend(numbers):
    """Tell if each of the numbers is greater than the one before it."""
    return all([left < right for left, right in zip(numbers, numbers[1:])])

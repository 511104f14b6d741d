"""The least row of words of a relation."""

from guessrests.columns import columns_from
from guessrests.relations import ALL, NOTHING


def least_row_of_words(relation):
    """Return the list of the words, each a list of letters, of the least row, or None if there is none.

    It is the row with the shortest longest word; among such rows, the one whose first word
    comes first, and then the second one, and so on.
    """
    length = _least_length(relation)
    if length is None:
        return None
    # All words of the row, with the blanks behind them, have this length.
    values = [None] * len(relation.tracks)
    for place in range(len(values)):
        values[place] = _least_values(relation, length, place, values)
    return [[value for value in word if value < size] for word, size in zip(values, relation.sizes)]


def _least_length(relation):
    """Return the least number of columns behind which the machine accepts, or None."""
    found = [(relation.start, 0)]
    seen = {relation.start: True}
    at = 0
    while at < len(found):
        state, length = found[at]
        at += 1
        if relation.marks[state]:
            return length
        for target in relation.rows[state]:
            if target != NOTHING and target not in seen:
                seen[target] = True
                found.append((target, length + 1))
    return None


def _least_values(relation, length, place, values):
    """Return the values of the least word at this place, beside the values that are told for other places."""
    size = relation.sizes[place]
    moves = [_moves_at(relation, place, values, at) for at in range(length)]
    lengths = _word_lengths(relation, length, place, moves)
    start_lengths = lengths[0][relation.start]
    word_length = (start_lengths & -start_lengths).bit_length() - 1
    word = []
    states = [relation.start]
    for at in range(word_length):
        targets = [[] for _ in range(size)]
        for state in states:
            for column_at, value in moves[at][relation.ended[state]]:
                target = relation.rows[state][column_at]
                if value < size and lengths[at + 1].get(target, 0) >> word_length & 1:
                    targets[value].append(target)
        letter = min([value for value in range(size) if targets[value]])
        word.append(letter)
        states = sorted(set(targets[letter]))
    return word + [size] * (length - word_length)


def _moves_at(relation, place, values, at):
    """Return for each number of ended tracks the (place of a column, its value at `place`) that can be read there."""
    moves = {}
    for ended in sorted(set(relation.ended)):
        columns = list(enumerate(columns_from(relation.sizes, ended)))
        for other, word in enumerate(values):
            if word is not None:
                columns = [(column_at, column) for column_at, column in columns if column[other] == word[at]]
        moves[ended] = [(column_at, column[place]) for column_at, column in columns]
    return moves


def _word_lengths(relation, length, place, moves):
    """Return for each number of columns read the dict from the states that can accept behind `length` columns.

    The value of a state is a number whose bit k is 1 if the word at this place can have k
    letters, or just not 0 if that word has ended before.
    """
    lengths = [{state: 1 << length for state, mark in enumerate(relation.marks) if mark}]
    for at in range(length - 1, -1, -1):
        behind = lengths[-1]
        here = {}
        for state in range(ALL + 1, len(relation.rows)):
            possible = 0
            for column_at, value in moves[at][relation.ended[state]]:
                further = behind.get(relation.rows[state][column_at], 0)
                if further:
                    possible |= 1 << at if value == relation.sizes[place] else further
            if possible:
                here[state] = possible
        lengths.append(here)
    lengths.reverse()
    return lengths

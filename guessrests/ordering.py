"""The words of a relation with at most one track, in ascending order. A word is a list of letters."""

from guessrests.relations import ALL, NOTHING


def least_word(relation):
    """Return the least word, or None if there is none.

    For more tracks it is the first one of the shortest rows, as a list of the places of its columns.
    """
    found = [(relation.start, None, None)]
    seen = {relation.start: True}
    at = 0
    while at < len(found):
        state = found[at][0]
        if relation.marks[state]:
            return way_to(found, at)
        for letter, target in enumerate(relation.rows[state]):
            if target != NOTHING and target not in seen:
                seen[target] = True
                found.append((target, at, letter))
        at += 1
    return None


def way_to(found, at):
    """Return the letters that lead to a place in a list of (state, place before, letter)."""
    letters = []
    place = at
    while found[place][1] is not None:
        letters.append(found[place][2])
        place = found[place][1]
    letters.reverse()
    return letters


def count_of_words(relation):
    """Return the number of words, or None if there are endlessly many."""
    if relation.start == NOTHING:
        return 0
    rows = [[target for target in row if target != NOTHING] for row in relation.rows]
    edges_to = [0] * len(rows)
    for row in rows:
        for target in row:
            edges_to[target] += 1
    # ALL accepts endlessly many, and so does each circle, since each state can accept something.
    if relation.start == ALL or edges_to[ALL] or edges_to[relation.start]:
        return None
    ways_to = [0] * len(rows)
    ways_to[relation.start] = 1
    settled = [relation.start]
    at = 0
    while at < len(settled):
        state = settled[at]
        at += 1
        for target in rows[state]:
            ways_to[target] += ways_to[state]
            edges_to[target] -= 1
            if not edges_to[target]:
                settled.append(target)
    if len(settled) < len(rows) - 2:
        return None
    return sum([ways_to[state] for state in settled if relation.marks[state]])


def words_with_at_most(relation, size, n):
    """Return the list of the words with at most n letters, of which there are as many as `size`."""
    words = []
    level = [([], relation.start)]
    for _ in range(n + 1):
        words.extend([word for word, state in level if relation.marks[state]])
        level = [
            (word + [letter], target)
            for word, state in level
            for letter, target in enumerate(row_of(relation, size, state))
            if target != NOTHING
        ]
    return words


def row_of(relation, size, state):
    """Return the row of a state, which may be one of the first two."""
    return [state] * size if state in (NOTHING, ALL) else relation.rows[state]


class Ranking:
    """The words of a relation with at most one track, whose letters are as many as `size`, by their numbers."""

    def __init__(self, relation, size):
        self.relation = relation
        self.count = count_of_words(relation)
        self.rows = [row_of(relation, size, state) for state in range(len(relation.rows))]
        # For each length, how many words of just this length each state accepts.
        self.layers = [[1 if mark else 0 for mark in relation.marks]]

    def word_at(self, n):
        """Return the n-th word, or None if n is below 0 or there are not so many."""
        if n < 0 or (self.count is not None and n >= self.count):
            return None
        rest = n
        length = 0
        while rest >= self._words_from(self.relation.start, length):
            rest -= self._words_from(self.relation.start, length)
            length += 1
        return self._word_of_length(length, rest)

    def _words_from(self, state, length):
        """Return the number of words of just this length that the state accepts."""
        while len(self.layers) <= length:
            last = self.layers[-1]
            self.layers.append([sum([last[target] for target in row]) for row in self.rows])
        return self.layers[length][state]

    def _word_of_length(self, length, rank):
        """Return the word with this number, from 0, among those of one length."""
        letters = []
        state = self.relation.start
        rest = rank
        for left in range(length - 1, -1, -1):
            letter = 0
            while rest >= self._words_from(self.rows[state][letter], left):
                rest -= self._words_from(self.rows[state][letter], left)
                letter += 1
            letters.append(letter)
            state = self.rows[state][letter]
        return letters

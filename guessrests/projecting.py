"""Relations that hold for some word, or for each word, on one track."""

from guessrests.choosing import ACCEPTS_ALL, Choices, accepting_alone, followers
from guessrests.endings import endings_of
from guessrests.relations import ALL, NOTHING, is_plain, opposite_relation, plain_relation, shrunk_relation

# How many sets are tried at first, besides some for each state, and how the number grows.
_FEW = 300
_FEW_FOR_EACH = 3
GROWTH = 8


class Numbering:
    """The numbers of the sets of states that were met, one for all sets that accept the same by the endings."""

    def __init__(self, endings):
        self.endings = endings
        self.numbers = {}
        self.numbers_of_endings = {}
        self.found = []

    def number_of(self, key):
        """Return the number of a group and a set."""
        number = self.numbers.get(key)
        if number is None:
            number = self._new_number(key)
            self.numbers[key] = number
        return number

    def _new_number(self, key):
        """Return the number of a set that was not met before."""
        group, chosen = key
        if chosen in (0, ACCEPTS_ALL):
            return ALL if chosen else NOTHING
        if self.endings is None:
            return self._number_added(key)
        kept, accepted = self.endings.needed(group, chosen)
        if accepted == self.endings.full[group]:
            return ALL
        if (group, accepted) not in self.numbers_of_endings:
            self.numbers_of_endings[(group, accepted)] = self._number_added((group, kept))
        return self.numbers_of_endings[(group, accepted)]

    def _number_added(self, key):
        """Return the new number of a set."""
        self.found.append(key)
        return len(self.found) + ALL


def some_word(relation, track):
    """Return the relation of the other tracks that holds where this one holds for some word on the track."""
    if is_plain(relation) or track not in relation.tracks:
        return relation
    if len(relation.tracks) == 1:
        return plain_relation(ALL if accepting_alone(relation, 0)[relation.start] else NOTHING)
    choices = Choices(relation, track)
    most = first_try(relation)
    while True:
        # Often there are few sets. If not, the endings, if they are few, lead to no more sets than are needed.
        joined = _relation_of_sets(choices, None, most) or relation_by_endings(choices, most * GROWTH)
        if joined is not None:
            return joined
        most *= GROWTH


def each_word(relation, track):
    """Return the relation of the other tracks that holds where this one holds for each word on the track."""
    return opposite_relation(some_word(opposite_relation(relation), track))


def first_try(relation):
    """Return how many sets are tried at first for this relation."""
    return _FEW + _FEW_FOR_EACH * len(relation.rows)


def relation_by_endings(choices, most):
    """Return the relation that the machine with choices accepts, or None if it has more kinds of endings."""
    endings = endings_of(choices, most)
    return None if endings is None else _relation_of_sets(choices, endings, None)


def _relation_of_sets(choices, endings, most):
    """Return the relation that the machine with choices accepts, or None if it takes more than `most` sets."""
    numbering = Numbering(endings)
    start = numbering.number_of(choices.start)
    ended = [0, 0]
    marks = [False, True]
    rows = [(), ()]
    while len(rows) < len(numbering.found) + 2:
        if most is not None and len(rows) > most:
            return None
        group, chosen = numbering.found[len(rows) - 2]
        follow = followers(choices.rows[group], chosen)
        ended.append(choices.ended[group])
        marks.append((chosen & choices.marks[group]) != 0)
        rows.append([numbering.number_of(key) for key in zip(choices.behind[group], follow)])
    return shrunk_relation(choices.tracks, choices.sizes, start, ended, marks, rows)

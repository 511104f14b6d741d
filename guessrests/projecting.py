"""Relations that hold for some word, or for each word, on one track."""

from guessrests.choosing import ACCEPTS_ALL, Choices, accepting_alone, followers
from guessrests.pruning import Pruning
from guessrests.relations import ALL, NOTHING, is_plain, opposite_relation, plain_relation, shrunk_relation

# A machine with more sets than this is built again with pruned ones: to prepare them takes some time.
_MANY = 300
_MANY_FOR_EACH = 3


class Numbering:
    """The numbers of the sets of states that were met, with or without pruning."""

    def __init__(self, pruning):
        self.pruning = pruning
        self.numbers = {}
        self.found = []

    def number_of(self, key):
        """Return the number of a pair of the ended tracks and a set."""
        number = self.numbers.get(key)
        if number is None:
            number = self._new_number(key)
            self.numbers[key] = number
        return number

    def _new_number(self, key):
        """Return the number of a pair that was not met in this form before."""
        ended, chosen = key
        kept = chosen if self.pruning is None else self.pruning.pruned(ended, chosen)
        if kept <= 0:
            return ALL if kept == ACCEPTS_ALL else NOTHING
        if kept != chosen:
            return self.number_of((ended, kept))
        self.found.append(key)
        return len(self.found) + ALL


def some_word(relation, track):
    """Return the relation of the other tracks that holds where this one holds for some word on the track."""
    if is_plain(relation) or track not in relation.tracks:
        return relation
    if len(relation.tracks) == 1:
        return plain_relation(ALL if accepting_alone(relation, 0)[relation.start] else NOTHING)
    choices = Choices(relation, track)
    most = _MANY + _MANY_FOR_EACH * len(relation.rows)
    return _relation_of_sets(choices, None, most) or _relation_of_sets(choices, Pruning(choices), None)


def each_word(relation, track):
    """Return the relation of the other tracks that holds where this one holds for each word on the track."""
    return opposite_relation(some_word(opposite_relation(relation), track))


def _relation_of_sets(choices, pruning, most):
    """Return the relation that the machine with choices accepts, or None if it takes more than `most` sets."""
    numbering = Numbering(pruning)
    start = numbering.number_of((0, choices.start))
    all_states_ended = [0, 0]
    marks = [False, True]
    rows = [(), ()]
    while len(rows) < len(numbering.found) + 2:
        if most is not None and len(rows) > most:
            return None
        ended, chosen = numbering.found[len(rows) - 2]
        follow = followers(choices.rows[ended], chosen)
        all_states_ended.append(ended)
        marks.append((chosen & choices.marks[ended]) != 0)
        rows.append([numbering.number_of(key) for key in zip(choices.behind[ended], follow)])
    return shrunk_relation(choices.tracks, choices.sizes, start, all_states_ended, marks, rows)

"""The least row of words for which there is some word, or no word, on a further track, without all of its machine."""

from guessrests.choosing import ACCEPTS_ALL, Choices, accepting_alone, followers
from guessrests.ordering import least_word, way_to
from guessrests.projecting import GROWTH, first_try, relation_by_endings, some_word
from guessrests.relations import is_plain, opposite_relation

# How many sets are tried at first, besides one for some states. Each is compared with many others.
_FEW = 300
_STATES_FOR_ONE = 8


def least_row_with(relation, track):
    """Return the columns of the least row of the other words with which the relation holds for some word on the track.

    They are as those of least_row_without.
    """
    if is_plain(relation) or len(relation.tracks) == 1 or track not in relation.tracks:
        return least_word(some_word(relation, track))
    choices = Choices(relation, track)
    found = [(choices.start, None, None)]
    # What a state accepts is accepted behind the first row that leads to it, so later ones need not be tried.
    met = [0 for _ in choices.rows]
    at = 0
    while at < len(found):
        group, chosen = found[at][0]
        if chosen == ACCEPTS_ALL or chosen & choices.marks[group]:
            return way_to(found, at)
        for column, (behind, states) in enumerate(zip(choices.behind[group], followers(choices.rows[group], chosen))):
            if states == ACCEPTS_ALL:
                found.append(((behind, states), at, column))
            elif states and states & ~met[behind]:
                found.append(((behind, states & ~met[behind]), at, column))
                met[behind] |= states
        at += 1
    return None


def least_row_without(relation, track):
    """Return the columns of the least row of the other words with which the relation holds for no word on the track.

    They are a list of the places of the columns, or None if there is no such row. If there
    is just one other track, they are the letters of its word.
    """
    if is_plain(relation) or track not in relation.tracks:
        return least_word(opposite_relation(relation))
    if len(relation.tracks) == 1:
        return None if accepting_alone(relation, 0)[relation.start] else []
    choices = Choices(relation, track)
    few = _FEW + len(relation.rows) // _STATES_FOR_ONE
    most = first_try(relation)
    while True:
        search = Search(choices, few)
        if search.is_over:
            return search.columns
        joined = relation_by_endings(choices, most)
        if joined is not None:
            return least_word(opposite_relation(joined))
        few *= GROWTH
        most *= GROWTH


class Search:
    """A search through the sets of states, from short rows to long ones, for one that does not accept.

    `is_over` tells if it came to an end with at most so many sets, and `columns` has the way
    to the first set that does not accept, or None. A set is passed over if it contains one
    that was met before: what is not accepted behind it is not accepted behind the other one.
    """

    def __init__(self, choices, most):
        self.choices = choices
        self.least_sets = [[] for _ in choices.rows]
        self.found = []
        self.is_over = False
        self.columns = None
        self._meet(choices.start, None, None)
        at = 0
        while at < len(self.found) <= most and self.columns is None:
            group, chosen = self.found[at][0]
            if not chosen or not chosen & choices.marks[group]:
                self.columns = way_to(self.found, at)
            else:
                for column, key in enumerate(zip(choices.behind[group], followers(choices.rows[group], chosen))):
                    self._meet(key, at, column)
            at += 1
        self.is_over = self.columns is not None or at == len(self.found)

    def _meet(self, key, at, column):
        """Enter a group and a set that follow the found one at a place by a column, if they are needed."""
        group, chosen = key
        if chosen == ACCEPTS_ALL:
            return
        if chosen:
            least_sets = self.least_sets[group]
            if any(old & chosen == old for old in least_sets):
                return
            self.least_sets[group] = [old for old in least_sets if old & chosen != chosen] + [chosen]
        self.found.append((key, at, column))

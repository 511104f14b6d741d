"""Whether whole conditions hold, and their relations."""

from guessrests.atoms import belonging, earlier_word, equal_words, no_longer
from guessrests.fixing import with_word
from guessrests.joining import both_hold, either_holds
from guessrests.ordering import least_word
from guessrests.projecting import each_word, some_word
from guessrests.relations import ALL, NOTHING, opposite_relation, plain_relation
from guessrests.searching import least_row_without
from guessrests.translating import Translation, opposite_part
from guessrests.values import letters_of, size_of


def relation_of(family, condition, free):
    """Return the relation of the values of the told variables, which have the tracks 0, 1 and so on."""
    translation = Translation(condition, free)
    return Decider(family, translation.kinds, {}).relation_of_part(translation.part)


def least_word_of(family, condition, free):
    """Return the word that stands for the least value of the one told variable, or None."""
    translation = Translation(condition, free)
    return Decider(family, translation.kinds, {}).least_row(translation.part)


def holds_for(family, condition, free, values):
    """Tell if the condition holds for these values of the told variables."""
    translation = Translation(condition, free)
    words = {}
    for track, pair in enumerate(free):
        words[track] = letters_of(family, pair[1], values[track])
    return Decider(family, translation.kinds, words).is_true(translation.part)


class Decider:
    """Decides the parts of one condition, in the form of Translation; the tracks of `words` have told words."""

    def __init__(self, family, kinds, words):
        self.family = family
        self.kinds = kinds
        self.words = words

    def is_true(self, part):
        """Tell if a part holds in which all variables are bound or have told words."""
        if part[0] in ("both", "either"):
            # The first inner part that is not as "both" or "either" asks settles it.
            goes_on = part[0] == "both"
            for inner in sorted(part[1], key=_weight_of):
                if self.is_true(inner) != goes_on:
                    return not goes_on
            return goes_on
        if part[0] == "some":
            return self._can_hold(part[2])
        if part[0] == "each":
            return not self._can_hold(opposite_part(part[2]))
        return self._relation_of_atom(part).start == ALL

    def _can_hold(self, part):
        """Tell if a part holds for some values of the variables that are not bound in it and have no told words."""
        if part[0] == "some":
            return self._can_hold(part[2])
        if part[0] == "either":
            for inner in sorted(part[1], key=_weight_of):
                if self._can_hold(inner):
                    return True
            return False
        return self.least_row(part) is not None

    def least_row(self, part):
        """Return the columns of the least row of words for which the part holds (least_row_without), or None."""
        parts = part[1] if part[0] == "both" else (part,)
        heaviest = None
        for inner in sorted(parts, key=_weight_of):
            if inner[0] == "each":
                heaviest = inner
        if heaviest is None:
            return least_word(self.relation_of_part(part))
        rest = self._all_hold([inner for inner in parts if inner != heaviest], True)
        if rest.start == NOTHING:
            return None
        # All that "each" asks for holds where there is no word for which it fails.
        failing = opposite_relation(self.relation_of_part(heaviest[2]))
        return least_row_without(either_holds(opposite_relation(rest), failing), heaviest[1])

    def relation_of_part(self, part):
        """Return the relation of a part."""
        if part[0] == "both":
            return self._all_hold(part[1], True)
        if part[0] == "either":
            return opposite_relation(self._all_hold(part[1], False))
        if part[0] == "some":
            return some_word(self.relation_of_part(part[2]), part[1])
        if part[0] == "each":
            return each_word(self.relation_of_part(part[2]), part[1])
        return self._relation_of_atom(part)

    def _relation_of_atom(self, part):
        """Return the relation of one of the simplest conditions or of its opposite."""
        word, one, two, holds = part
        size = size_of(self.family, self.kinds[one])
        if word == "in":
            relation = belonging(self.family, one, two)
        elif word == "fits":
            relation = no_longer(one, size, two, 1)
        elif word == "same":
            relation = equal_words(one, two, size)
        else:
            relation = earlier_word(one, two, size)
        for track in (one, two):
            if track in self.words:
                relation = with_word(relation, track, self.words[track])
        return relation if holds else opposite_relation(relation)

    def _all_hold(self, parts, holds):
        """Return the relation in which all the parts hold, or none of them if `holds` is False."""
        relations = []
        # Short parts come first: often one of them settles it.
        for part in sorted(parts, key=_weight_of):
            relation = self.relation_of_part(part)
            relations.append(relation if holds else opposite_relation(relation))
            if relations[-1].start == NOTHING:
                return plain_relation(NOTHING)
        return _all_joined(relations)


def _weight_of(part):
    """Return the number of the simplest conditions in the part."""
    if part[0] in ("both", "either"):
        return sum([_weight_of(inner) for inner in part[1]])
    return _weight_of(part[2]) if part[0] in ("some", "each") else 1


def _all_joined(relations):
    """Return the relation in which all of these hold, joined in an order that keeps the tracks few."""
    joined = plain_relation(ALL)
    rest = list(relations)
    while rest and joined.start != NOTHING:
        costs = [(_tracks_together(joined, relation), len(relation.rows)) for relation in rest]
        joined = both_hold(joined, rest.pop(costs.index(min(costs))))
    return joined


def _tracks_together(one, two):
    """Return the number of tracks of the two relations."""
    return len(one.tracks) + len([track for track in two.tracks if track not in one.tracks])

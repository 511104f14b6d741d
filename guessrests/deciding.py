"""The relations of whole conditions."""

from guessrests.atoms import belonging, earlier_word, equal_words, no_longer
from guessrests.fixing import with_word
from guessrests.joining import both_hold
from guessrests.projecting import each_word, some_word
from guessrests.relations import ALL, NOTHING, opposite_relation, plain_relation
from guessrests.translating import Translation
from guessrests.values import letters_of, size_of


def relation_of(family, condition, free):
    """Return the relation of the values of the told variables, which have the tracks 0, 1 and so on."""
    return _relation_with_words(family, condition, free, {})


def holds_for(family, condition, free, values):
    """Tell if the condition holds for these values of the told variables."""
    words = {}
    for track, pair in enumerate(free):
        words[track] = letters_of(family, pair[1], values[track])
    return _relation_with_words(family, condition, free, words).start == ALL


def _relation_with_words(family, condition, free, words):
    """Return the relation of the condition, in which the tracks of `words` have these words."""
    translation = Translation(condition, free)
    return Decider(family, translation.kinds, words).relation_of_part(translation.part)


class Decider:
    """Makes the relations of the parts of one condition, in the form of Translation."""

    def __init__(self, family, kinds, words):
        self.family = family
        self.kinds = kinds
        self.words = words

    def relation_of_part(self, part):
        """Return the relation of a part."""
        if part[0] == "both":
            return self._all_hold(part[1], True)
        if part[0] == "either":
            return opposite_relation(self._all_hold(part[1], False))
        if part[0] == "some":
            return some_word(self.relation_of_part(part[2]), part[1])
        if part[0] == "each":
            return each_word(self.relation_of_part(part[2]), part[1])
        return self._relation_of_atom(part)

    def _relation_of_atom(self, part):
        """Return the relation of one of the simplest conditions or of its opposite."""
        word, one, two, holds = part
        size = size_of(self.family, self.kinds[one])
        if word == "in":
            relation = belonging(self.family, one, two)
        elif word == "fits":
            relation = no_longer(one, size, two, 1)
        elif word == "same":
            relation = equal_words(one, two, size)
        else:
            relation = earlier_word(one, two, size)
        for track in (one, two):
            if track in self.words:
                relation = with_word(relation, track, self.words[track])
        return relation if holds else opposite_relation(relation)

    def _all_hold(self, parts, holds):
        """Return the relation in which all the parts hold, or none of them if `holds` is False."""
        relations = []
        # Short parts come first: often one of them settles it.
        for part in sorted(parts, key=_weight_of):
            relation = self.relation_of_part(part)
            relations.append(relation if holds else opposite_relation(relation))
            if relations[-1].start == NOTHING:
                return plain_relation(NOTHING)
        return _all_joined(relations)


def _weight_of(part):
    """Return the number of the simplest conditions in the part."""
    if part[0] in ("both", "either"):
        return sum([_weight_of(inner) for inner in part[1]])
    return _weight_of(part[2]) if part[0] in ("some", "each") else 1


def _all_joined(relations):
    """Return the relation in which all of these hold, joined in an order that keeps the tracks few."""
    joined = plain_relation(ALL)
    rest = list(relations)
    while rest and joined.start != NOTHING:
        costs = [(_tracks_together(joined, relation), len(relation.rows)) for relation in rest]
        joined = both_hold(joined, rest.pop(costs.index(min(costs))))
    return joined


def _tracks_together(one, two):
    """Return the number of tracks of the two relations."""
    return len(one.tracks) + len([track for track in two.tracks if track not in one.tracks])

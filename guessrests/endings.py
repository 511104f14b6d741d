"""What the states of a machine with a choice accept, told by the endings of rows of words.

Endings that are accepted by just the same states of a group are not told apart. So a group
has finitely many kinds of endings, and two sets of its states accept the same if and only if
they accept the same kinds. A set of kinds is a number, as a set of states is.
"""

from guessrests.choosing import ACCEPTS_ALL, members_of


class Endings:
    """The kinds of endings of each group: `full` has all of them, `accepted` those that a state accepts."""

    def __init__(self, choices, kinds):
        self.full = [0 for _ in choices.rows]
        self.accepted = [[0] * len(rows) for rows in choices.rows]
        for group, chosen in kinds:
            bit = self.full[group] + 1
            self.full[group] |= bit
            for at in members_of(chosen):
                self.accepted[group][at] |= bit

    def needed(self, group, chosen):
        """Return a smaller set that accepts the same, and the kinds of endings that it accepts."""
        accepted = 0
        kept = 0
        for at in members_of(chosen):
            wider = accepted | self.accepted[group][at]
            if wider != accepted:
                accepted = wider
                kept |= 1 << at
        return kept, accepted


def endings_of(choices, most):
    """Return the endings of a machine with a choice, or None if there are more than so many kinds."""
    sources, certain = _sources(choices)
    kinds = list(enumerate(choices.marks)) + certain
    seen = {kind: True for kind in kinds}
    kinds = list(seen)
    at = 0
    while at < len(kinds):
        if len(kinds) > most:
            return None
        group, chosen = kinds[at]
        at += 1
        members = members_of(chosen)
        for before, always, sources_of in sources[group]:
            accepting = always
            for place in members:
                accepting |= sources_of[place]
            if (before, accepting) not in seen:
                seen[(before, accepting)] = True
                kinds.append((before, accepting))
    return Endings(choices, kinds)


def _sources(choices):
    """Return for each group the list of what leads to it, and the list of kinds that come from columns to no group.

    What leads to a group by one column is a group, the set of its states that accept all behind
    the column, and for each state behind the column the set of the states that lead to it.
    """
    sources = [[] for _ in choices.rows]
    certain = []
    for before, rows in enumerate(choices.rows):
        for column, group in enumerate(choices.behind[before]):
            always = 0
            for at, row in enumerate(rows):
                if row[column] == ACCEPTS_ALL:
                    always |= 1 << at
            if group is None:
                certain.append((before, always))
            else:
                sources[group].append((before, always, _sources_of(rows, column, len(choices.rows[group]))))
    return sources, certain


def _sources_of(rows, column, many):
    """Return for each of the many states behind the column the set of the states that lead to it."""
    sources_of = [0] * many
    for at, row in enumerate(rows):
        if row[column] != ACCEPTS_ALL:
            for place in members_of(row[column]):
                sources_of[place] |= 1 << at
    return sources_of

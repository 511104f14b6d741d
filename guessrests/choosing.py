"""Machines with a choice: what is left of a relation when the word on one track may be any.

A state of such a machine can have several next states, and a row of words is accepted if
some way through the machine accepts it. The states that can come into one set of states are
a group; a set of states of one group is a number, whose bit k is 1 if the k-th state of the
group is in the set. The number -1 stands for a set that accepts all, 0 for the empty one.
"""

from guessrests.columns import (
    all_ended, columns_from, ended_without, places_of, places_of_lone_letters, with_value, without_track,
)
from guessrests.grouping import groups_that_meet
from guessrests.relations import ALL

ACCEPTS_ALL = -1


class Choices:
    """The machine of a relation in which the word on one track is open.

    `start` is the group and the set of the start. For each group, `ended` has the ended tracks,
    `marks` the set of the marked states, `rows` for each state the list of the sets that follow
    it, and `behind` the list of the groups of these sets, with None where they have no states.
    """

    def __init__(self, relation, track):
        place = relation.tracks.index(track)
        self.tracks = without_track(relation.tracks, place)
        self.sizes = without_track(relation.sizes, place)
        targets = _targets(relation, place)
        groups, self.behind = groups_that_meet(targets, relation.start)
        group_of = {state: number for number, group in enumerate(groups) for state in group}
        bits = {state: 1 << at for group in groups for at, state in enumerate(group)}
        bits[ALL] = ACCEPTS_ALL
        accepting = accepting_alone(relation, place)
        self.start = (group_of[relation.start], bits[relation.start])
        self.ended = [ended_without(relation.ended[group[0]], place) for group in groups]
        self.marks = [_set_of(bits, [state for state in group if accepting[state]]) for group in groups]
        self.rows = [[[_set_of(bits, chosen) for chosen in targets[state]] for state in group] for group in groups]


def accepting_alone(relation, place):
    """Return for each state whether it accepts when only the track at this place goes on, perhaps not at all."""
    places = {}
    for ended in range(all_ended(relation.sizes)):
        goes_on = not ended >> place & 1
        places[ended] = places_of_lone_letters(relation.sizes, place, ended) if goes_on else []
    before = [[] for _ in relation.rows]
    for state in range(ALL + 1, len(relation.rows)):
        for at in places[relation.ended[state]]:
            before[relation.rows[state][at]].append(state)
    accepting = list(relation.marks)
    waiting = [state for state, mark in enumerate(accepting) if mark]
    while waiting:
        goal = waiting.pop()
        for state in before[goal]:
            if not accepting[state]:
                accepting[state] = True
                waiting.append(state)
    return accepting


def followers(rows, chosen):
    """Return the list of the sets that follow a set of states with these rows."""
    follow = []
    for at in members_of(chosen):
        follow = [one | two for one, two in zip(follow, rows[at])] if follow else rows[at]
    return follow


def members_of(chosen):
    """Return the list of the places of the states in a set."""
    members = []
    rest = chosen
    while rest:
        lowest = rest & -rest
        members.append(lowest.bit_length() - 1)
        rest ^= lowest
    return members


def _set_of(bits, states):
    """Return the set of the states."""
    chosen = 0
    for state in states:
        chosen |= bits[state]
    return chosen


def _targets(relation, place):
    """Return for each state and each column of the other tracks the list of the next states, without NOTHING."""
    places = {}
    targets = [[], []]
    for state in range(ALL + 1, len(relation.rows)):
        ended = relation.ended[state]
        if ended not in places:
            places[ended] = _places_with_any(relation.sizes, place, ended)
        row = relation.rows[state]
        found = [[row[at] for at in column_places if row[at] >= ALL] for column_places in places[ended]]
        targets.append([[ALL] if ALL in chosen else chosen for chosen in found])
    return targets


def _places_with_any(sizes, place, ended):
    """Return for each column of the other tracks the places of the columns that have it beside any value."""
    places = places_of(columns_from(sizes, ended))
    values = [sizes[place]] if ended >> place & 1 else list(range(sizes[place] + 1))
    others = columns_from(without_track(sizes, place), ended_without(ended, place))
    return [[places[with_value(column, place, value)] for value in values] for column in others]

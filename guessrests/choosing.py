"""Machines with a choice: what is left of a relation when the word on one track may be any.

A state of such a machine can have several next states, and a row of words is accepted if
some way through the machine accepts it. The states with the same ended tracks are a group;
a set of states of one group is a number, whose bit k is 1 if the k-th state of the group is
in the set. The number -1 stands for a set that accepts all, 0 for one that accepts nothing.
"""

from guessrests.columns import (
    all_ended, columns_from, ended_behind, ended_without, places_of, places_of_lone_letters, with_value, without_track,
)
from guessrests.relations import ALL

ACCEPTS_ALL = -1


class Choices:
    """The machine of a relation in which the word on one track is open.

    `start` is the set of the start state. For each number of ended tracks, `behind` has the
    list of the ended tracks behind each column, `marks` the set of the marked states of the
    group, and `rows` for each of its states the list of the sets behind each column.
    """

    def __init__(self, relation, track):
        place = relation.tracks.index(track)
        self.tracks = without_track(relation.tracks, place)
        self.sizes = without_track(relation.sizes, place)
        # Nothing follows any more where all the other words have ended, so that is no group.
        groups = [[] for _ in range(all_ended(self.sizes))]
        bits = [0, ACCEPTS_ALL] + [0] * (len(relation.rows) - 2)
        for state in range(ALL + 1, len(relation.rows)):
            ended = ended_without(relation.ended[state], place)
            if ended < len(groups):
                bits[state] = 1 << len(groups[ended])
                groups[ended].append(state)
        accepting = accepting_alone(relation, place)
        self.start = bits[relation.start]
        self.behind = [_all_behind(self.sizes, ended) for ended in range(len(groups))]
        self.marks = [_set_of(bits, [state for state in group if accepting[state]]) for group in groups]
        self.rows = [_rows_of_group(relation, place, group, bits) for group in groups]


def accepting_alone(relation, place):
    """Return for each state whether it accepts when only the track at this place goes on, perhaps not at all."""
    places = {}
    for ended in range(all_ended(relation.sizes)):
        goes_on = not ended >> place & 1
        places[ended] = places_of_lone_letters(relation.sizes, place, ended) if goes_on else []
    before = [[] for _ in relation.rows]
    for state in range(ALL + 1, len(relation.rows)):
        for at in places[relation.ended[state]]:
            before[relation.rows[state][at]].append(state)
    accepting = list(relation.marks)
    waiting = [state for state, mark in enumerate(accepting) if mark]
    while waiting:
        goal = waiting.pop()
        for state in before[goal]:
            if not accepting[state]:
                accepting[state] = True
                waiting.append(state)
    return accepting


def followers(rows, chosen):
    """Return the list of the sets that follow a set of states with these rows."""
    follow = []
    for at in members_of(chosen):
        follow = [one | two for one, two in zip(follow, rows[at])] if follow else rows[at]
    return follow


def members_of(chosen):
    """Return the list of the places of the states in a set."""
    members = []
    rest = chosen
    while rest:
        lowest = rest & -rest
        members.append(lowest.bit_length() - 1)
        rest ^= lowest
    return members


def _all_behind(sizes, ended):
    """Return for each column that can follow which tracks have ended behind it."""
    return [ended_behind(sizes, column) for column in columns_from(sizes, ended)]


def _set_of(bits, states):
    """Return the set of the states."""
    chosen = 0
    for state in states:
        chosen |= bits[state]
    return chosen


def _rows_of_group(relation, place, group, bits):
    """Return for each state of the group the list of the sets of its next states."""
    places = {}
    rows = []
    for state in group:
        ended = relation.ended[state]
        if ended not in places:
            places[ended] = _places_with_any(relation.sizes, place, ended)
        row = relation.rows[state]
        rows.append([_set_of(bits, [row[at] for at in group_of_places]) for group_of_places in places[ended]])
    return rows


def _places_with_any(sizes, place, ended):
    """Return for each column of the other tracks the places of the columns that have it beside any value."""
    places = places_of(columns_from(sizes, ended))
    values = [sizes[place]] if ended >> place & 1 else list(range(sizes[place] + 1))
    others = columns_from(without_track(sizes, place), ended_without(ended, place))
    return [[places[with_value(column, place, value)] for value in values] for column in others]

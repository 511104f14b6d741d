"""Relations made from two others."""

from guessrests.columns import all_ended, columns_from, ended_behind, places_of
from guessrests.relations import ALL, NOTHING, is_plain, opposite_relation, plain_relation, shrunk_relation


def both_hold(left, right):
    """Return the relation of the rows, over the tracks of the two relations, that are in both."""
    return _joined(left, right, lambda one, two: one and two)


def either_holds(left, right):
    """Return the relation of the rows, over the tracks of the two relations, that are in at least one."""
    return _joined(left, right, lambda one, two: one or two)


def just_one_holds(left, right):
    """Return the relation of the rows, over the tracks of the two relations, that are in just one."""
    return _joined(left, right, lambda one, two: one != two)


def _joined(left, right, decide):
    """Return the relation of the rows for which decide(in left, in right) is True."""
    if is_plain(left):
        return _joined_with_plain(right, decide(left.start == ALL, False), decide(left.start == ALL, True))
    if is_plain(right):
        return _joined_with_plain(left, decide(False, right.start == ALL), decide(True, right.start == ALL))
    tracks, sizes = _tracks_of_both(left, right)
    moves = _moves_of_two(tracks, sizes, left, right)
    left_rows = _rows_with_end(left)
    right_rows = _rows_with_end(right)
    numbers = {(0, left.start, right.start): ALL + 1}
    found = [(0, left.start, right.start)]
    all_states_ended = [0, 0]
    marks = [False, True]
    rows = [(), ()]
    while len(rows) < len(found) + 2:
        ended, one, two = found[len(rows) - 2]
        ones = left_rows[one]
        twos = right_rows[two]
        row = []
        for behind, one_at, two_at in moves[ended]:
            key = (behind, ones[one_at], twos[two_at])
            number = numbers.get(key)
            if number is None:
                number = _settled(key[1], key[2], decide)
                if number is None:
                    number = len(found) + 2
                    found.append(key)
                numbers[key] = number
            row.append(number)
        all_states_ended.append(ended)
        marks.append(decide(left.marks[one], right.marks[two]))
        rows.append(row)
    return shrunk_relation(tracks, sizes, ALL + 1, all_states_ended, marks, rows)


def _joined_with_plain(relation, if_not, if_so):
    """Return the relation that holds as `if_so` tells where this one does, and as `if_not` tells elsewhere."""
    if if_not == if_so:
        return plain_relation(ALL if if_so else NOTHING)
    return relation if if_so else opposite_relation(relation)


def _settled(one, two, decide):
    """Return NOTHING or ALL if that is what the two states accept together, otherwise None."""
    ones = [one == ALL] if one in (NOTHING, ALL) else [False, True]
    twos = [two == ALL] if two in (NOTHING, ALL) else [False, True]
    answers = [decide(first, second) for first in ones for second in twos]
    if all(answers):
        return ALL
    return None if any(answers) else NOTHING


def _tracks_of_both(left, right):
    """Return the tracks of both relations in ascending order, and their sizes."""
    size_of = {}
    for relation in (left, right):
        for track, size in zip(relation.tracks, relation.sizes):
            size_of[track] = size
    tracks = tuple(sorted(size_of))
    return tracks, tuple([size_of[track] for track in tracks])


def _moves_of_two(tracks, sizes, left, right):
    """Return for each number of ended tracks the list of (ended behind, place for left, place for right)."""
    moves = []
    for ended in range(all_ended(sizes)):
        columns = columns_from(sizes, ended)
        behind = [ended_behind(sizes, column) for column in columns]
        lefts = _places_in(left, tracks, ended, columns)
        rights = _places_in(right, tracks, ended, columns)
        moves.append(list(zip(behind, lefts, rights)))
    return moves


def _places_in(relation, tracks, ended, columns):
    """Return for each column its place in the rows of the relation, or -1 if it has only blanks for it."""
    places = [tracks.index(track) for track in relation.tracks]
    own_ended = 0
    for at, place in enumerate(places):
        own_ended += (ended >> place & 1) << at
    own = places_of(columns_from(relation.sizes, own_ended))
    return [own.get(tuple([column[place] for place in places]), -1) for column in columns]


def _rows_with_end(relation):
    """Return the rows, each with what is accepted at the end of all words as its last state."""
    width = len(columns_from(relation.sizes, 0)) + 1
    rows = [(NOTHING,) * width, (ALL,) * width]
    for row, mark in list(zip(relation.rows, relation.marks))[2:]:
        # The place -1 is the last one, so it needs no test.
        rows.append(row + (ALL if mark else NOTHING,))
    return rows

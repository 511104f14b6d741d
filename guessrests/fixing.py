"""Relations in which the word on one track is told."""

from guessrests.columns import (
    all_ended, columns_from, ended_without, places_of, places_of_lone_letters, with_value, without_track,
)
from guessrests.relations import ALL, NOTHING, is_plain, plain_relation, shrunk_relation


def with_word(relation, track, word):
    """Return the relation of the other tracks that holds where this one has the word, a list of letters."""
    if is_plain(relation) or track not in relation.tracks:
        return relation
    place = relation.tracks.index(track)
    marks_at = _marks_with_rest(relation, place, word)
    if len(relation.tracks) == 1:
        return plain_relation(ALL if marks_at[0][relation.start] else NOTHING)
    places = {}
    numbers = {(0, relation.start): ALL + 1}
    found = [(0, relation.start)]
    ended = [0, 0]
    marks = [False, True]
    rows = [(), ()]
    while len(rows) < len(found) + 2:
        read, state = found[len(rows) - 2]
        value = word[read] if read < len(word) else relation.sizes[place]
        move = (relation.ended[state], value)
        if move not in places:
            places[move] = _places_with(relation.sizes, place, relation.ended[state], value)
        row = []
        for at in places[move]:
            key = (min(read + 1, len(word)), relation.rows[state][at])
            if key[1] > ALL and key not in numbers:
                numbers[key] = len(found) + 2
                found.append(key)
            row.append(numbers.get(key, key[1]))
        ended.append(ended_without(relation.ended[state], place))
        marks.append(marks_at[read][state])
        rows.append(row)
    tracks = without_track(relation.tracks, place)
    return shrunk_relation(tracks, without_track(relation.sizes, place), ALL + 1, ended, marks, rows)


def _places_with(sizes, place, ended, value):
    """Return the places of the columns that have this value at one place, and not only blanks beside it."""
    places = places_of(columns_from(sizes, ended))
    others = columns_from(without_track(sizes, place), ended_without(ended, place))
    return [places[with_value(column, place, value)] for column in others]


def _marks_with_rest(relation, place, word):
    """Return, for each number of letters of the word that were read, which states accept the rest alone."""
    places = {}
    for ended in range(all_ended(relation.sizes)):
        if not ended >> place & 1:
            places[ended] = places_of_lone_letters(relation.sizes, place, ended)
    marks = relation.marks
    marks_at = [marks]
    for letter in reversed(word):
        before = [False, True]
        for state in range(ALL + 1, len(relation.rows)):
            # A state behind the end of the track is never asked while letters are left.
            at = places.get(relation.ended[state])
            before.append(at is not None and marks[relation.rows[state][at[letter]]])
        marks = before
        marks_at.append(marks)
    return list(reversed(marks_at))

"""Columns: what is read in one step from several words side by side.

Each word stands on a track of its own. The letters of a track with n letters are the numbers
0, .., n - 1, and the blank behind the end of the word is n. The tracks that have ended are
told as a number, whose bit k is 1 if the track at place k has ended.
"""


def columns_from(sizes, ended):
    """Return the list of the columns that can follow when these tracks have ended."""
    columns = [()]
    for place, size in enumerate(sizes):
        values = [size] if ended >> place & 1 else list(range(size + 1))
        columns = [column + (value,) for column in columns for value in values]
    # The column of blanks alone comes last: it is never read, since then all words have ended.
    columns.pop()
    return columns


def ended_behind(sizes, column):
    """Return the tracks that have ended when this column has been read."""
    ended = 0
    for place, size in enumerate(sizes):
        if column[place] == size:
            ended += 1 << place
    return ended


def all_ended(sizes):
    """Return the number that tells that all tracks have ended."""
    return (1 << len(sizes)) - 1


def places_of(columns):
    """Return the dict from each column of the list to its place."""
    return {column: at for at, column in enumerate(columns)}


def places_of_lone_letters(sizes, place, ended):
    """Return for each letter of one track the place of the column that has it beside blanks only."""
    places = places_of(columns_from(sizes, ended))
    blanks = without_track(sizes, place)
    return [places[with_value(blanks, place, letter)] for letter in range(sizes[place])]


def without_track(parts, place):
    """Return the tuple of one part for each track without the part at this place."""
    return parts[:place] + parts[place + 1:]


def ended_without(ended, place):
    """Return the ended tracks, numbered anew without the track at this place."""
    low = ended & ((1 << place) - 1)
    return low + ((ended >> (place + 1)) << place)


def with_value(column, place, value):
    """Return the column with a further value at this place."""
    return column[:place] + (value,) + column[place:]

"""Relations: sets of rows of words that a machine with finitely many states accepts.

The words of a row stand on tracks and are read side by side, column by column, until all of
them have ended. A state of the machine knows which tracks have ended before it, and its row
in `rows` has one state for each column that can follow (columns_from).
"""

from guessrests.columns import columns_from, ended_behind
from guessrests.shrinking import refined

# From the first two states on, nothing or all is accepted, whatever follows.
NOTHING = 0
ALL = 1


class Relation:
    """A relation with its tracks, which are numbers in ascending order, and its machine."""

    def __init__(self, tracks, sizes, start, ended, marks, rows):
        self.tracks = tracks
        self.sizes = sizes
        self.start = start
        self.ended = ended
        self.marks = marks
        self.rows = rows


def plain_relation(start):
    """Return the relation without tracks that holds if the start is ALL, and not if it is NOTHING."""
    return Relation((), (), start, [0, 0], [False, True], [(), ()])


def is_plain(relation):
    """Tell if the relation holds for all rows or for none."""
    return relation.start in (NOTHING, ALL)


def shrunk_relation(tracks, sizes, start, ended, marks, rows):
    """Return the relation of this machine, with as few states as it can have.

    All states must be reached from the start, and the first two of them be NOTHING and ALL.
    """
    class_of, count = refined(ended, marks, rows)
    if class_of[start] in (NOTHING, ALL):
        return plain_relation(class_of[start])
    new_ended = [0] * count
    new_marks = [False, True] + [False] * (count - 2)
    new_rows = [()] * count
    for state, number in enumerate(class_of):
        if number > ALL and not new_rows[number]:
            new_ended[number] = ended[state]
            new_marks[number] = marks[state]
            new_rows[number] = tuple([class_of[target] for target in rows[state]])
    return Relation(tracks, sizes, class_of[start], new_ended, new_marks, new_rows)


def grown_relation(tracks, sizes, start, step, is_marked):
    """Return the relation of the machine with this start, with step(state, column) and is_marked(state)."""
    columns = {}
    numbers = {(0, start): ALL + 1}
    found = [(0, start)]
    all_ended = [0, 0]
    marks = [False, True]
    rows = [(), ()]
    while len(rows) < len(found) + 2:
        ended, state = found[len(rows) - 2]
        if ended not in columns:
            columns[ended] = [(column, ended_behind(sizes, column)) for column in columns_from(sizes, ended)]
        row = []
        for column, behind in columns[ended]:
            key = (behind, step(state, column))
            if key not in numbers:
                numbers[key] = len(found) + 2
                found.append(key)
            row.append(numbers[key])
        all_ended.append(ended)
        marks.append(is_marked(state))
        rows.append(row)
    return shrunk_relation(tracks, sizes, ALL + 1, all_ended, marks, rows)


def opposite_relation(relation):
    """Return the relation of the rows of words that are not in this one."""
    # All rows of words are read to their end, so the other marks accept just the other ones.
    turned = [ALL, NOTHING] + list(range(ALL + 1, len(relation.rows)))
    marks = [False, True] + [not mark for mark in relation.marks[2:]]
    rows = [tuple([turned[target] for target in row]) for row in relation.rows]
    return Relation(relation.tracks, relation.sizes, turned[relation.start], relation.ended, marks, rows)

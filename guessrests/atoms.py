"""The relations of the simplest conditions: belonging, length, equality and order."""

from guessrests.relations import ALL, NOTHING, grown_relation, plain_relation


def belonging(family, thing_track, name_track):
    """Return the relation of the things and names of which the thing belongs to the name."""
    names, things, start, marks, steps = family
    width = len(things) + 1

    def step(state, thing_value, name_value):
        return steps[state][name_value * width + thing_value]

    def is_marked(state):
        return state in marks

    return _pair_relation((thing_track, name_track), (len(things), len(names)), start, step, is_marked)


def no_longer(track, size, other, other_size):
    """Return the relation in which the word on the track has at most as many letters as the other one."""

    def step(state, value, other_value):
        return state and (value == size or other_value < other_size)

    return _pair_relation((track, other), (size, other_size), True, step, _is_true)


def equal_words(track, other, size):
    """Return the relation of two equal words."""
    if track == other:
        return plain_relation(ALL)

    def step(state, value, other_value):
        return state and value == other_value

    return _pair_relation((track, other), (size, size), True, step, _is_true)


def earlier_word(track, other, size):
    """Return the relation in which the word on the track comes before the other one."""
    if track == other:
        return plain_relation(NOTHING)

    def step(state, value, other_value):
        # The shorter word comes first, whatever letters were read.
        if value == size:
            return -1
        if other_value == size:
            return 1
        return state or (value > other_value) - (value < other_value)

    return _pair_relation((track, other), (size, size), 0, step, _is_below)


def _is_true(state):
    """Tell if the state is True."""
    return state


def _is_below(state):
    """Tell if the state is below 0."""
    return state < 0


def _pair_relation(tracks, sizes, start, step, is_marked):
    """Return the relation of two tracks, in this order or the other, for step(state, value, other_value)."""
    one, other = tracks
    if one < other:
        return grown_relation(
            tracks, sizes, start, lambda state, column: step(state, column[0], column[1]), is_marked,
        )
    return grown_relation(
        (other, one), (sizes[1], sizes[0]), start, lambda state, column: step(state, column[1], column[0]), is_marked,
    )

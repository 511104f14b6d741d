"""Machines with as few states as they can have: which states do the same."""


def refined(ended, marks, rows):
    """Return for each state the number of its class, and the number of classes.

    States of one class accept the same. The classes 0 and 1 are of the states that accept
    nothing and all; the first two states are such ones, and their rows are empty. Other
    states of one class have the same ended tracks.
    """
    before = _states_before(rows)
    some = _leading_to(before, [state for state, mark in enumerate(marks) if mark])
    other = _leading_to(before, [state for state, mark in enumerate(marks) if not mark])
    class_of = [0 if not some[state] else 1 for state in range(len(rows))]
    # The states that accept something but not all are split until all of a class do the same.
    open_states = [state for state in range(len(rows)) if some[state] and other[state]]
    numbers = {}
    members = [{}, {}]
    for state in open_states:
        key = (ended[state], marks[state])
        if key not in numbers:
            numbers[key] = len(members)
            members.append({})
        class_of[state] = numbers[key]
        members[numbers[key]][state] = True
    touched = open_states
    while touched:
        moved = _split(class_of, members, touched, rows)
        after = {state: True for target in moved for state in before[target]}
        touched = [state for state in after if class_of[state] > 1]
    return class_of, len(members)


def _states_before(rows):
    """Return for each state the list of the states that have it in their row."""
    before = [[] for _ in rows]
    for state, row in enumerate(rows):
        for target in sorted(set(row)):
            before[target].append(state)
    return before


def _leading_to(before, goals):
    """Return for each state whether one of the goals can be reached from it."""
    reached = [False] * len(before)
    for state in goals:
        reached[state] = True
    waiting = list(goals)
    while waiting:
        goal = waiting.pop()
        for state in before[goal]:
            if not reached[state]:
                reached[state] = True
                waiting.append(state)
    return reached


def _split(class_of, members, touched, rows):
    """Split the classes of the touched states by what the states lead to; return the states that moved.

    States of one class that are not touched lead to the same classes, and no touched one does
    so, since it leads to a class that is new. The largest part of a class keeps its number, so
    that each state moves seldom.
    """
    parts = {}
    for state in touched:
        key = (class_of[state], tuple([class_of[target] for target in rows[state]]))
        parts.setdefault(key, []).append(state)
    parts_of = {}
    for key, part in parts.items():
        parts_of.setdefault(key[0], []).append(part)
    moved = []
    for number, new_parts in parts_of.items():
        rest = members[number]
        for part in new_parts:
            for state in part:
                del rest[state]
        moving = new_parts
        largest = max(new_parts, key=len)
        if len(rest) < len(largest):
            moving = [part for part in new_parts if part != largest] + [list(rest)]
            members[number] = {state: True for state in largest}
        for part in moving:
            if part:
                for state in part:
                    class_of[state] = len(members)
                members.append({state: True for state in part})
                moved.extend(part)
    return moved

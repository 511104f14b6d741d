"""Which states of a machine with a choice can come into one set of states."""

from guessrests.relations import ALL


def groups_that_meet(targets, start):
    """Return the list of the groups of states, and for each group the list of the groups behind each column.

    `targets` has for each state and column the list of the next states. All states are in
    groups that can be reached from the start; behind a column without states there is None.
    """
    meeting = Meeting(targets)
    numbers = {meeting.leader_of(start): 0}
    leaders = [meeting.leader_of(start)]
    behind = []
    while len(behind) < len(leaders):
        row = []
        for state in meeting.rows[leaders[len(behind)]]:
            leader = None if state is None else meeting.leader_of(state)
            if leader is not None and leader not in numbers:
                numbers[leader] = len(leaders)
                leaders.append(leader)
            row.append(numbers.get(leader))
        behind.append(row)
    groups = [[] for _ in leaders]
    for state in range(ALL + 1, len(targets)):
        number = numbers.get(meeting.leader_of(state))
        if number is not None:
            groups[number].append(state)
    return groups, behind


class Meeting:
    """The groups of states, each with a leader, whose row has one state behind each column, or None."""

    def __init__(self, targets):
        self.leaders = list(range(len(targets)))
        self.rows = []
        waiting = []
        for state_targets in targets:
            states = [[state for state in chosen if state > ALL] for chosen in state_targets]
            self.rows.append([chosen[0] if chosen else None for chosen in states])
            waiting.extend([(chosen[0], state) for chosen in states for state in chosen[1:]])
        while waiting:
            one, two = waiting.pop()
            waiting.extend(self._joined(one, two))

    def leader_of(self, state):
        """Return the leader of the group of the state."""
        leader = state
        while self.leaders[leader] != leader:
            # Shorter ways to the leader save time later.
            self.leaders[leader] = self.leaders[self.leaders[leader]]
            leader = self.leaders[leader]
        return leader

    def _joined(self, one, two):
        """Join the groups of the two states, and return the pairs of states that meet because of this."""
        first = self.leader_of(one)
        second = self.leader_of(two)
        if first == second:
            return []
        self.leaders[second] = first
        pairs = list(zip(self.rows[first], self.rows[second]))
        self.rows[first] = [two_there if one_there is None else one_there for one_there, two_there in pairs]
        return [pair for pair in pairs if None not in pair]

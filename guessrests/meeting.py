"""The names that meet demands. A name is read letter by letter, beside all things of which something is asked."""

from guessrests.demands import SHALL, SHALL_NOT
from guessrests.ordering import way_to
from guessrests.prospects import Prospects
from guessrests.relations import grown_relation
from guessrests.values import value_of


def names_meeting(family, track, demands):
    """Return the relation, on this track, of the names that meet the demands."""
    reader = DemandReader(family, demands)
    return grown_relation(
        (track,), (len(family[0]),), reader.start, lambda state, column: reader.step(state, column[0]), reader.accepts,
    )


def least_name_meeting(family, demands):
    """Return the least name that meets the demands, or None."""
    reader = DemandReader(family, demands)
    found = [(reader.start, None, None)]
    seen = {reader.start: True, None: True}
    at = 0
    while at < len(found):
        state = found[at][0]
        if reader.accepts(state):
            return value_of(family, "name", way_to(found, at))
        for letter in range(len(family[0])):
            behind = reader.step(state, letter)
            if behind not in seen:
                seen[behind] = True
                found.append((behind, at, letter))
        at += 1
    return None


class DemandReader:
    """The machine that reads a name and tells if it meets the demands.

    A state is a tuple: the set of the states of the family's machine in which things are that
    have ended and shall belong; the set for those that shall not; and the tuple of the pairs of
    a beginning that may go on and the state of the machine behind it. What is settled is left
    out. If no name can meet the demands any more, the state is None.
    """

    def __init__(self, family, demands):
        self.steps = family[4]
        self.width = len(family[1]) + 1
        self.demands = demands
        self.prospects = Prospects(family, demands)
        self.start = self._state_of(0, 0, [(0, family[2])])

    def step(self, state, letter):
        """Return the state behind a further letter of the name."""
        if state is None:
            return None
        shall = self._moved(state[0], letter)
        shall_not = self._moved(state[1], letter)
        pairs = []
        for beginning, inner in state[2]:
            row = self.steps[inner][letter * self.width:(letter + 1) * self.width]
            if self.demands.asked[beginning] & SHALL:
                shall |= 1 << row[-1]
            if self.demands.asked[beginning] & SHALL_NOT:
                shall_not |= 1 << row[-1]
            # The last state of the row is the one behind the end of the thing.
            pairs.extend([pair for pair in zip(self.demands.longer[beginning], row[:-1]) if pair[0] is not None])
        return self._state_of(shall, shall_not, pairs)

    def accepts(self, state):
        """Tell if the name that was read meets the demands."""
        if state is None:
            return False
        shall, shall_not, pairs = state
        wanted = self.prospects.wanted
        if shall & ~wanted[SHALL] or shall_not & ~wanted[SHALL_NOT]:
            return False
        return all([self.prospects.right[beginning] >> inner & 1 for beginning, inner in pairs])

    def _moved(self, states, letter):
        """Return the set behind a set of states in which things are that have ended."""
        moved = 0
        for state, row in enumerate(self.steps):
            if states >> state & 1:
                moved |= 1 << row[(letter + 1) * self.width - 1]
        return moved

    def _state_of(self, shall, shall_not, pairs):
        """Return the state with these sets and pairs."""
        ahead = self.prospects
        hopeless = shall & shall_not
        hopeless |= shall & ~ahead.hopeful_ended[SHALL]
        hopeless |= shall_not & ~ahead.hopeful_ended[SHALL_NOT]
        if hopeless or not all([ahead.hopeful[beginning] >> inner & 1 for beginning, inner in pairs]):
            return None
        going = sorted(set([pair for pair in pairs if not ahead.settled[pair[0]] >> pair[1] & 1]))
        shall &= ~ahead.settled_ended[SHALL]
        shall_not &= ~ahead.settled_ended[SHALL_NOT]
        return shall, shall_not, tuple(going)

"""Names that are told, read beside things that are not."""

from guessrests.relations import grown_relation


class ReadName:
    """The machine of a family that reads one name beside any thing.

    A state is a pair: how many letters of the name were read, and the state of the machine.
    """

    def __init__(self, family, name):
        names, things, start, marks, steps = family
        self.letters = [names.index(letter) for letter in name]
        self.blank = len(names)
        self.width = len(things) + 1
        self.steps = steps
        self.start = (0, start)
        self.accepted = self._accepted_behind(marks)

    def step(self, state, value):
        """Return the state behind a letter of the thing."""
        read, inner = state
        if read == len(self.letters):
            return read, self.steps[inner][self.blank * self.width + value]
        return read + 1, self.steps[inner][self.letters[read] * self.width + value]

    def accepts(self, state):
        """Tell if the thing that was read belongs to the name, when no letter of it follows."""
        return self.accepted[state[0]][state[1]]

    def _accepted_behind(self, marks):
        """Return, for each number of letters read, which states end in a mark by the rest of the name alone."""
        accepted = [[state in marks for state in range(len(self.steps))]]
        for letter in reversed(self.letters):
            at = letter * self.width + self.width - 1
            accepted.append([accepted[-1][row[at]] for row in self.steps])
        accepted.reverse()
        return accepted


def things_of_name(family, name, track):
    """Return the relation, on this track, of the things that belong to the name."""
    reader = ReadName(family, name)
    return grown_relation(
        (track,), (len(family[1]),), reader.start, lambda state, column: reader.step(state, column[0]), reader.accepts,
    )


def least_thing_where(family, names, is_wanted):
    """Return the least thing for which is_wanted holds, or None.

    It is asked about the list that tells for each of the names whether the thing belongs to it.
    """
    return least_thing_read([ReadName(family, name) for name in names], family[1], is_wanted)


def least_thing_read(readers, alphabet, is_wanted):
    """Return the least thing for which is_wanted holds of what these machines tell of it, or None."""
    found = [("", tuple([reader.start for reader in readers]))]
    seen = {found[0][1]: True}
    at = 0
    while at < len(found):
        thing, states = found[at]
        at += 1
        if is_wanted([reader.accepts(state) for reader, state in zip(readers, states)]):
            return thing
        for value, letter in enumerate(alphabet):
            behind = tuple([reader.step(state, value) for reader, state in zip(readers, states)])
            if behind not in seen:
                seen[behind] = True
                found.append((thing + letter, behind))
    return None

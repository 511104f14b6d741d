"""What can become of things, beside names of which only a part was read."""


class Prospects:
    """What can become of things from the states of the machine on, as sets of states, for what is asked of them.

    A set is a number, whose bit k tells of the state k. `hopeful_ended` and `settled_ended` speak of
    a thing that has ended, for each of the four numbers of what is asked: from these states it
    can be right for some longer name, or is right for each. `right`, `hopeful` and `settled` speak of all
    things with a beginning: they are right if the name ends here, can be right, or are right for each name.
    """

    def __init__(self, family, demands):
        self.steps = family[4]
        self.size = len(family[0])
        self.width = len(family[1]) + 1
        self.all_states = (1 << len(self.steps)) - 1
        marked = sum([1 << state for state in family[3]])
        self.wanted = [self.all_states, marked, self.all_states - marked, 0]
        later = [self._later_states(state) for state in range(len(self.steps))]
        self.hopeful_ended = [_places_where([states & wanted for states in later]) for wanted in self.wanted]
        self.settled_ended = [_places_where([states & wanted == states for states in later]) for wanted in self.wanted]
        self.right = []
        self.hopeful = []
        self.settled = []
        self._judge_all(demands)

    def _later_states(self, start):
        """Return the set of the states that can come when the thing has ended, for any name."""
        found = [start]
        at = 0
        while at < len(found):
            row = self.steps[found[at]]
            at += 1
            for letter in range(self.size):
                target = row[(letter + 1) * self.width - 1]
                if target not in found:
                    found.append(target)
        return sum([1 << state for state in found])

    def _judge_all(self, demands):
        """Find the sets of all beginnings, longer ones before those within them."""
        kept = {}
        whole = (self.all_states,) * 3
        judged = [whole for _ in demands.asked]
        for at in range(len(judged) - 1, -1, -1):
            longer = [whole if behind is None else judged[behind] for behind in demands.longer[at]]
            key = (demands.asked[at], tuple(longer))
            # Most beginnings have what others have, too.
            if key not in kept:
                kept[key] = self._judged(demands.asked[at], longer)
            judged[at] = kept[key]
        self.right = [sets[0] for sets in judged]
        self.hopeful = [sets[1] for sets in judged]
        self.settled = [sets[2] for sets in judged]

    def _judged(self, asked, longer):
        """Return the right, hopeful and settled states of a beginning, from what is asked and the longer ones' sets."""
        right = self.wanted[asked] & self._states_before(self.size, [sets[0] for sets in longer])
        hopeful = right
        settled = right
        for letter in range(self.size):
            hopeful |= self._states_before(letter, [sets[1] for sets in longer] + [self.hopeful_ended[asked]])
            settled &= self._states_before(letter, [sets[2] for sets in longer] + [self.settled_ended[asked]])
        return right, hopeful, settled

    def _states_before(self, letter, goals):
        """Return the states that lead to these sets, one for each letter of a thing and the blank.

        The letter of the name may be a blank, too.
        """
        begin = letter * self.width
        targets = [row[begin:begin + self.width] for row in self.steps]
        return _places_where([all([goal >> to & 1 for goal, to in zip(goals, row)]) for row in targets])


def _places_where(answers):
    """Return the set of the places at which the answer is true."""
    return sum([1 << place for place, answer in enumerate(answers) if answer])

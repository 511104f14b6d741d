"""What is asked of a name: that some things belong to it, and that some do not."""

# What can be asked of a thing. Both can be asked of one, but then no name meets it.
SHALL = 1
SHALL_NOT = 2


class Demands:
    """What is asked of all names alike, as a tree of the beginnings of things. The tree has these numbers.

    For each beginning, `asked` has what is asked of the thing that ends there, and `longer` for
    each letter the number of the beginning behind it, or None if nothing is asked of a thing
    that goes on so. A longer beginning has a greater number than the ones within it.
    """

    def __init__(self, alphabet, wanted, unwanted):
        self.alphabet = alphabet
        self.asked = [0]
        self.longer = [[None] * len(alphabet)]
        self.lengths = [0]
        for thing in wanted:
            self.asked[self._entered(thing)] |= SHALL
        for thing in unwanted:
            self.asked[self._entered(thing)] |= SHALL_NOT

    def bar_others(self, n):
        """Ask of each thing with at most n letters, if nothing was asked of it, that it does not belong."""
        # Behind a beginning of no other thing, just the number of letters counts.
        last = len(self.asked) - 1
        for at, length in enumerate(self.lengths):
            if length <= n and not self.asked[at]:
                self.asked[at] = SHALL_NOT
            if length < n:
                self.longer[at] = [last + length + 1 if behind is None else behind for behind in self.longer[at]]
        for length in range(1, n + 1):
            self.asked.append(SHALL_NOT)
            self.longer.append([last + length + 1 if length < n else None] * len(self.alphabet))

    def _entered(self, thing):
        """Return the number of the thing in the tree."""
        at = 0
        for length, letter in enumerate(thing):
            place = self.alphabet.index(letter)
            if self.longer[at][place] is None:
                self.longer[at][place] = len(self.asked)
                self.asked.append(0)
                self.longer.append([None] * len(self.alphabet))
                self.lengths.append(length + 1)
            at = self.longer[at][place]
        return at

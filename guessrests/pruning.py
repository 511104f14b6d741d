"""Smaller sets of states that accept the same, for a machine with a choice.

A state can be left out of a set if another one in it accepts at least as much. And a set
accepts all if two of its states accept all between them. Both are looked up in tables for
the pairs of states that can come into one set; the tables find such pairs step by step, so
they may miss some, but never tell a wrong one.
"""

from guessrests.choosing import ACCEPTS_ALL, members_of

# With more pairs than this, the tables would take longer than they save.
_MOST_PAIRS = 60000


class Pruning:
    """The tables of a machine with a choice."""

    def __init__(self, choices):
        self.choices = choices
        pairs = _pairs_met(choices)
        self.above = [[0] * len(rows) for rows in choices.rows]
        self.filling = [[0] * len(rows) for rows in choices.rows]
        for ended, one, two in pairs:
            self._add_pair(ended, one, two)
        self._settle_filling(pairs)
        self._settle_above(pairs)

    def pruned(self, ended, chosen):
        """Return a smaller set of the group that accepts the same."""
        if chosen <= 0:
            return chosen
        kept = chosen
        for at in members_of(chosen):
            if self.filling[ended][at] & chosen:
                return ACCEPTS_ALL
            # A state that is left out already cannot stand in for another one.
            if self.above[ended][at] & kept:
                kept ^= 1 << at
        return kept

    def _add_pair(self, ended, one, two):
        """Enter the pair where the marks of the two states allow it."""
        marked_one = self.choices.marks[ended] >> one & 1
        marked_two = self.choices.marks[ended] >> two & 1
        if marked_one or marked_two:
            self.filling[ended][one] |= 1 << two
            self.filling[ended][two] |= 1 << one
        if one != two and marked_one <= marked_two:
            self.above[ended][one] |= 1 << two
        if one != two and marked_two <= marked_one:
            self.above[ended][two] |= 1 << one

    def _settle_filling(self, pairs):
        """Take out pairs as long as some column leads from one to a set without such a pair."""
        changed = True
        while changed:
            changed = False
            # Pairs that were met later are behind earlier ones, so this order needs few rounds.
            for ended, one, two in reversed(pairs):
                if self.filling[ended][one] >> two & 1 and not self._still_fills(ended, one, two):
                    self.filling[ended][one] &= ~(1 << two)
                    self.filling[ended][two] &= ~(1 << one)
                    changed = True

    def _still_fills(self, ended, one, two):
        """Tell if behind each column there is a pair that accepts all, as far as the table tells."""
        rows = self.choices.rows[ended]
        for behind, first, second in zip(self.choices.behind[ended], rows[one], rows[two]):
            chosen = first | second
            if chosen != ACCEPTS_ALL:
                table = self.filling[behind]
                if not any([table[at] & chosen for at in members_of(chosen)]):
                    return False
        return True

    def _settle_above(self, pairs):
        """Take out pairs as long as some column leads the lower one to what the upper one does not cover."""
        changed = True
        while changed:
            changed = False
            for ended, one, two in reversed(pairs):
                for low, high in ((one, two), (two, one)):
                    if self.above[ended][low] >> high & 1 and not self._still_above(ended, low, high):
                        self.above[ended][low] &= ~(1 << high)
                        changed = True

    def _still_above(self, ended, low, high):
        """Tell if behind each column all that the lower one leads to is covered, as far as the table tells."""
        rows = self.choices.rows[ended]
        for behind, lower, upper in zip(self.choices.behind[ended], rows[low], rows[high]):
            rest = lower & ~upper
            if rest:
                table = self.above[behind]
                if lower == ACCEPTS_ALL or not all([table[at] & upper for at in members_of(rest)]):
                    return False
        return True


def _pairs_met(choices):
    """Return the list of the pairs (ended, state, state) that can meet in a set, or no pair if there are too many."""
    if choices.start <= 0:
        return []
    start = (0, choices.start.bit_length() - 1, choices.start.bit_length() - 1)
    met = {start: True}
    pairs = [start]
    at = 0
    while at < len(pairs):
        if len(pairs) > _MOST_PAIRS:
            return []
        ended, one, two = pairs[at]
        at += 1
        rows = choices.rows[ended]
        for behind, first, second in zip(choices.behind[ended], rows[one], rows[two]):
            if first > 0 and second > 0:
                for pair in _pairs_of_two(behind, members_of(first), members_of(second)):
                    if pair not in met:
                        met[pair] = True
                        pairs.append(pair)
    return pairs


def _pairs_of_two(ended, firsts, seconds):
    """Return the list of the pairs of one state of each list, the one with the lower place first."""
    return [(ended, min(one, two), max(one, two)) for one in firsts for two in seconds]

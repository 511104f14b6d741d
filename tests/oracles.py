"""Answers found by trying all small names, things and lengths, without the program.

The things up to a length tell all of the names up to `longest` letters if they have at least
longest + states ** 2 letters: behind the end of two names, a thing of two machines with
fewer letters than that passes no pair of states twice.
"""

import itertools

from samples import COLUMNS, words_of


class Oracle:
    """All names up to some length, with their sets of small things."""

    def __init__(self, family, longest, far, letters):
        self.family = family
        self.names = words_of(family[0], longest)
        self.far_names = words_of(family[0], far)
        self.things = words_of(family[1], letters)
        self.place = {column: at for at, column in enumerate(COLUMNS[family[:2]])}
        self.sets = {name: self.set_of(name) for name in self.far_names}

    def belongs(self, name, thing):
        state = self.family[2]
        for column in itertools.zip_longest(name, thing, fillvalue=""):
            state = self.family[4][state][self.place[column]]
        return state in self.family[3]

    def set_of(self, name):
        return frozenset(at for at, thing in enumerate(self.things) if self.belongs(name, thing))

    def things_of(self, name):
        return [self.things[at] for at in sorted(self.sets[name])]

    def parting_thing(self, name, other):
        parting = self.sets[name] - self.sets[other]
        return self.things[min(parting)] if parting else None

    def traps(self, name, n):
        """The traps among all names up to the far length."""
        own = self.sets[name]
        return [
            other for other in self.far_names
            if self.sets[other] < own and all(len(self.things[at]) > n for at in own - self.sets[other])
        ]

    def unlike_holders(self, name, n):
        """The unlike names up to the far length to which all things up to n belong."""
        own = self.sets[name]
        return [
            other for other in self.far_names
            if self.sets[other] != own and all(len(self.things[at]) > n for at in own - self.sets[other])
        ]


def order_key(kind, value):
    """A key that sorts values of one kind as the document orders them."""
    return value if kind == "length" else (len(value), value)


def size_of(value):
    """The number of letters of a word, or a length itself."""
    return value if isinstance(value, int) else len(value)


def evaluate(oracle, condition, values, domains):
    """Decide a condition, where the variables range over finite lists of values."""
    word = condition[0]
    if word == "not":
        return not evaluate(oracle, condition[1], values, domains)
    if word == "both":
        return all(evaluate(oracle, part, values, domains) for part in condition[1:])
    if word == "either":
        return any(evaluate(oracle, part, values, domains) for part in condition[1:])
    if word in ("some", "each"):
        decide = any if word == "some" else all
        _, variable, kind, part = condition
        return decide(evaluate(oracle, part, {**values, variable: value}, domains) for value in domains[kind])
    one, two = values[condition[1]], values[condition[2]]
    if word == "in":
        return oracle.belongs(two, one)
    if word == "fits":
        return len(one) <= two
    kind = "length" if isinstance(one, int) else "word"
    if word == "same":
        return one == two
    return order_key(kind, one) < order_key(kind, two)

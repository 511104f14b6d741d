"""Families and words that several tests use, made without the program."""

import itertools
import random

# The two families of the document's examples.
SHORT = ("ab", "a", 0, (0,), ((0, 0, 0, 0, 1), (1, 1, 1, 1, 1)))
NEVER = ("ab", "a", 0, (0, 2), ((0, 0, 2, 2, 1), (1, 1, 2, 2, 1), (2, 2, 2, 2, 2)))

ALPHABETS = ("a", "z", "k", "ab", "bz", "xy", "abc", "xyz", "amz")

# The document's order, written out: letters first, the blank last, never two blanks.
COLUMNS = {
    ("a", "b"): (("a", "b"), ("a", ""), ("", "b")),
    ("a", "bc"): (("a", "b"), ("a", "c"), ("a", ""), ("", "b"), ("", "c")),
    ("z", "abc"): (
        ("z", "a"), ("z", "b"), ("z", "c"), ("z", ""),
        ("", "a"), ("", "b"), ("", "c"),
    ),
    ("ab", "a"): (("a", "a"), ("a", ""), ("b", "a"), ("b", ""), ("", "a")),
    ("ab", "ab"): (
        ("a", "a"), ("a", "b"), ("a", ""),
        ("b", "a"), ("b", "b"), ("b", ""),
        ("", "a"), ("", "b"),
    ),
    ("cd", "xy"): (
        ("c", "x"), ("c", "y"), ("c", ""),
        ("d", "x"), ("d", "y"), ("d", ""),
        ("", "x"), ("", "y"),
    ),
    ("bz", "amz"): (
        ("b", "a"), ("b", "m"), ("b", "z"), ("b", ""),
        ("z", "a"), ("z", "m"), ("z", "z"), ("z", ""),
        ("", "a"), ("", "m"), ("", "z"),
    ),
    ("abc", "b"): (
        ("a", "b"), ("a", ""), ("b", "b"), ("b", ""), ("c", "b"), ("c", ""), ("", "b"),
    ),
    ("xyz", "ab"): (
        ("x", "a"), ("x", "b"), ("x", ""),
        ("y", "a"), ("y", "b"), ("y", ""),
        ("z", "a"), ("z", "b"), ("z", ""),
        ("", "a"), ("", "b"),
    ),
    ("abc", "abc"): (
        ("a", "a"), ("a", "b"), ("a", "c"), ("a", ""),
        ("b", "a"), ("b", "b"), ("b", "c"), ("b", ""),
        ("c", "a"), ("c", "b"), ("c", "c"), ("c", ""),
        ("", "a"), ("", "b"), ("", "c"),
    ),
}


def words_of(alphabet, longest):
    """All words with at most so many letters, shorter ones first, then as a dictionary has them."""
    words = []
    for length in range(longest + 1):
        words.extend("".join(letters) for letters in itertools.product(alphabet, repeat=length))
    return words


def family_of(alphabets, start, marks, rows):
    """A family with rows that are dicts from columns to states."""
    columns = COLUMNS[alphabets]
    steps = tuple(tuple(row[column] for column in columns) for row in rows)
    return alphabets + (start, marks, steps)


def random_rows(draw, alphabets, count):
    """That many rows, as dicts from columns to states drawn at random."""
    return [{column: draw.randrange(count) for column in COLUMNS[alphabets]} for _ in range(count)]


def random_family(seed):
    """A family, the same for the same seed, with the rows of its machine as dicts."""
    draw = random.Random(seed)
    alphabets = draw.choice(sorted(COLUMNS))
    count = draw.randint(1, 7)
    rows = random_rows(draw, alphabets, count)
    marks = tuple(state for state in range(count) if draw.random() < 0.5)
    return family_of(alphabets, draw.randrange(count), marks, rows), rows


def random_word(draw, alphabet, longest):
    """A word with at most so many letters."""
    return "".join(draw.choice(alphabet) for _ in range(draw.randint(0, longest)))


def family_with(alphabets, count, seed):
    """A family with these alphabets and that many states, the same for the same seed."""
    draw = random.Random(f"{alphabets} {count} {seed}")
    rows = random_rows(draw, alphabets, count)
    marks = tuple(state for state in range(count) if draw.random() < 0.5)
    return family_of(alphabets, draw.randrange(count), marks, rows)

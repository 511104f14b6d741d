"""Written texts: promises [19] and [20]."""

import random
import unittest

from guessrests.reading import read_condition, read_family
from guessrests.writing import write_condition, write_family
from samples import COLUMNS, NEVER, SHORT, random_family
from test_names import plain_family
from texts import random_condition


class TestExamples(unittest.TestCase):
    def test_of_the_document(self):
        short = ("ab", "a", 0, (0,), ((0, 0, 0, 0, 1), (1, 1, 1, 1, 1)))
        self.assertEqual(write_family(short), (
            "names ab\nthings a\nstart 0\nmarks 0\n"
            "0: a/a 0, a/- 0, b/a 0, b/- 0, -/a 1\n1: a/a 1, a/- 1, b/a 1, b/- 1, -/a 1"
        ))


class TestFamilies(unittest.TestCase):
    def test_by_hand(self):
        self.assertEqual(write_family(NEVER), (
            "names ab\nthings a\nstart 0\nmarks 0, 2\n"
            "0: a/a 0, a/- 0, b/a 2, b/- 2, -/a 1\n"
            "1: a/a 1, a/- 1, b/a 2, b/- 2, -/a 1\n"
            "2: a/a 2, a/- 2, b/a 2, b/- 2, -/a 2"
        ))
        self.assertEqual(write_family(plain_family(("z", "abc"), ())), (
            "names z\nthings abc\nstart 0\nmarks\n"
            "0: z/a 0, z/b 0, z/c 0, z/- 0, -/a 0, -/b 0, -/c 0"
        ))
        self.assertEqual(write_family(("a", "b", 1, (0, 1), ((0, 1, 0), (1, 0, 1)))), (
            "names a\nthings b\nstart 1\nmarks 0, 1\n0: a/b 0, a/- 1, -/b 0\n1: a/b 1, a/- 0, -/b 1"
        ))

    def test_many_states(self):
        family = ("a", "b", 10, (0, 2, 11), tuple((at, 11 - at, 3) for at in range(12)))
        lines = write_family(family).split("\n")
        self.assertEqual(lines[2:4] + lines[-1:], ["start 10", "marks 0, 2, 11", "11: a/b 11, a/- 0, -/b 3"])
        self.assertEqual(read_family(write_family(family)), family)

    def test_each_column_in_order(self):
        for alphabets, columns in COLUMNS.items():
            line = write_family(plain_family(alphabets, (0,))).split("\n")[4]
            written = [f"{left or '-'}/{right or '-'} 0" for left, right in columns]
            self.assertEqual(line, "0: " + ", ".join(written))

    def test_what_is_written_is_read_back(self):
        for seed in range(120):
            family = random_family(seed)[0]
            self.assertEqual(read_family(write_family(family)), family)


class TestConditions(unittest.TestCase):
    def test_by_hand(self):
        inside = ("in", "x", "i")
        for condition, text in (
            (inside, "x in i"),
            (("fits", "x", "n"), "x fits n"),
            (("same", "a", "b"), "a = b"),
            (("before", "a", "b"), "a < b"),
            (("not", inside), "!x in i"),
            (("not", ("not", inside)), "!!x in i"),
            (("both", inside, ("same", "i", "j")), "[x in i & i = j]"),
            (("either", inside, ("before", "i", "j")), "[x in i / i < j]"),
            (("some", "x", "thing", inside), "?x thing x in i"),
            (("each", "n", "length", inside), "*n length x in i"),
            (("each", "i", "name", ("some", "x", "thing", inside)), "*i name ?x thing x in i"),
            (("not", ("both", ("not", inside), inside)), "![!x in i & x in i]"),
            (("either", ("both", inside, inside), ("some", "in", "name", inside)), "[[x in i & x in i] / ?in name x in i]"),
            (("in", "in", "fits"), "in in fits"),
        ):
            self.assertEqual(write_condition(condition), text)
            self.assertEqual(read_condition(text), condition)

    def test_what_is_written_is_read_back(self):
        for seed in range(300):
            condition = random_condition(random.Random(seed), seed % 7)
            self.assertEqual(read_condition(write_condition(condition)), condition)

    def test_deep_conditions(self):
        condition = ("same", "a", "a")
        for depth in range(11):
            wider = (("not", condition), ("each", "ab", "name", condition), ("both", ("in", "x", "i"), condition))
            condition = wider[depth % 3]
            self.assertEqual(read_condition(write_condition(condition)), condition)


if __name__ == "__main__":
    unittest.main()

"""Texts that are read: promises [21] and [22]."""

import random
import unittest

from guessrests.errors import BadText, GuessError, NoFamily
from guessrests.families import check_family
from guessrests.reading import read_condition, read_family
from guessrests.writing import write_condition, write_family
from samples import NEVER, SHORT, random_family
from texts import mutated, random_condition, spaced, wrong_in_condition, wrong_in_family

TEXT = (
    "names ab\nthings a\nstart 0\nmarks 0\n"
    "0: a/a 0, a/- 0, b/a 0, b/- 0, -/a 1\n1: a/a 1, a/- 1, b/a 1, b/- 1, -/a 1"
)
LINES = TEXT.split("\n")


class TestExamples(unittest.TestCase):
    def test_of_the_document(self):
        with self.assertRaises(BadText) as caught:
            read_condition("x in")
        self.assertEqual((caught.exception.line, caught.exception.at), (0, 4))
        self.assertEqual(read_condition("*i name ?x thing x in i"), ("each", "i", "name", ("some", "x", "thing", ("in", "x", "i"))))


class TestConditions(unittest.TestCase):
    def check_bad(self, text, at):
        with self.assertRaises(BadText) as caught:
            read_condition(text)
        self.assertEqual((caught.exception.line, caught.exception.at), (0, at), repr(text))
        self.assertIs(type(caught.exception.at), int)
        self.assertIsInstance(caught.exception, GuessError)

    def test_spaces(self):
        for text, condition in (
            ("  x   in   i ", ("in", "x", "i")),
            ("a=b", ("same", "a", "b")),
            ("a<b", ("before", "a", "b")),
            (" ! ! a =b", ("not", ("not", ("same", "a", "b")))),
            ("[a=b&c<d]", ("both", ("same", "a", "b"), ("before", "c", "d"))),
            ("[ a = b/c in d ]  ", ("either", ("same", "a", "b"), ("in", "c", "d"))),
            ("?  x thing*i name!x in i", ("some", "x", "thing", ("each", "i", "name", ("not", ("in", "x", "i"))))),
            ("?x thing[a=b&c=d]", ("some", "x", "thing", ("both", ("same", "a", "b"), ("same", "c", "d")))),
        ):
            self.assertEqual(read_condition(text), condition)

    def test_any_words_as_variables(self):
        for text, condition in (
            ("in in in", ("in", "in", "in")),
            ("fits fits fits", ("fits", "fits", "fits")),
            ("name = thing", ("same", "name", "thing")),
            ("?name name name in name", ("some", "name", "name", ("in", "name", "name"))),
            ("*length length length < length", ("each", "length", "length", ("before", "length", "length"))),
        ):
            self.assertEqual(read_condition(text), condition)

    def test_conditions_that_are_not_valid_are_read(self):
        self.assertEqual(read_condition("x in x"), ("in", "x", "x"))
        self.assertEqual(read_condition("?x name x fits x"), ("some", "x", "name", ("fits", "x", "x")))

    def test_texts_that_end_too_early(self):
        for text in (
            "", " ", "    ", "x", "x ", "x in", "x in  ", "x =", "!", "! !", "[", "[x in i", "[x in i &", "[x in i & y = z",
            "?", "?x", "?x name", "*x length ", "?x name !", "[[a = b / a = b] ",
        ):
            self.check_bad(text, len(text))

    def test_tokens_that_do_not_fit(self):
        for text, at in (
            ("x in i i", 7), ("x in i &", 7), ("x = = y", 4), ("xin i", 4), ("x ini", 2), ("x & y", 2), ("x / y", 2),
            ("]", 0), ("x in ?", 5), ("[x in i]", 7), ("[x in i & y in j / a = b]", 17), ("[x in i / y in j & a = b]", 17),
            ("[x in i & y in j", 16), ("[x in i & y in j]]", 17), ("?xname x in i", 7), ("?x names x in i", 3), ("?x x", 3),
            ("??", 1), ("?!x", 1), ("*[", 1), ("? thing = a", 8), ("!x in !i", 6), ("& a = b", 0), ("<", 0), ("a <= b", 3),
            ("- a = b", 0), (": a", 0), (", a", 0), ("a, b", 1), ("a = b,", 5), ("a = b:", 5), ("a = b-", 5), ("a - b", 2),
        ):
            self.check_bad(text, at)

    def test_numbers_do_not_fit(self):
        for text, at in (("0", 0), ("x in 1", 5), ("x1 in i", 1), ("x in i0", 6), ("007", 0), ("x in i 00", 7), ("9x in i", 0)):
            self.check_bad(text, at)

    def test_characters_that_begin_no_token(self):
        for text, at in (
            ("X in i", 0), ("x in I", 5), ("x in iI", 6), ("x in i.", 6), ("(x in i)", 0), ("x in i\n", 6), ("\nx in i", 0),
            ("x\nin i", 1), ("x in\ti", 4), ("\t", 0), (" \n", 1), ("x_y in i", 1), ("x in i ~", 7), ("x > y", 2), ("x == y", 3),
            ("[x in i | y in j]", 8), ("x 'in' i", 2), ("{", 0), ("x in i # y", 7), ("\"", 0), ("a % b", 2), ("a + b", 2),
        ):
            self.check_bad(text, at)

    def test_the_first_of_two_faults(self):
        for text, at in (("x in i i .", 7), ("x . i i", 2), ("x in . 00", 5), ("?x A x in i in", 3), ("[a = b ] . &", 7)):
            self.check_bad(text, at)

    def test_twelve_open_signs(self):
        for text in ("!" * 12 + "a = b", "?x name " * 12 + "a = b", "[" * 12 + "a = b" + " & a = b]" * 12):
            self.assertEqual(write_condition(read_condition(text)), text)
            self.check_bad(text + "]", len(text))
            self.check_bad(text[:-1] if text.endswith("]") else text[:-2], len(text) - (1 if text.endswith("]") else 2))
        wide = "a = b"
        for _ in range(9):
            wide = f"[{wide} / {wide}]"
        self.assertEqual(write_condition(read_condition(wide)), wide)

    def test_random_spaces(self):
        for seed in range(300):
            draw = random.Random(seed)
            condition = random_condition(draw, seed % 6)
            self.assertEqual(read_condition(spaced(draw, write_condition(condition))), condition)

    def test_random_faults(self):
        bad = 0
        for seed in range(3000):
            draw = random.Random(seed)
            text = write_condition(random_condition(draw, seed % 5))
            for _ in range(draw.randint(1, 2)):
                text = mutated(draw, text)
            at = wrong_in_condition(text)
            if at is None:
                read_condition(text)
            else:
                bad += 1
                self.check_bad(text, at)
        self.assertGreater(bad, 1000)
        self.assertLess(bad, 2900)


class TestFamilies(unittest.TestCase):
    def check_bad(self, text, line, at):
        with self.assertRaises(BadText) as caught:
            read_family(text)
        self.assertEqual((caught.exception.line, caught.exception.at), (line, at), repr(text))
        self.assertIs(type(caught.exception.line), int)

    def check_line(self, number, line, at):
        """Check that the text cannot be read if the line is put in the place of the one with this number."""
        lines = LINES[:number] + [line] + LINES[number + 1:]
        self.check_bad("\n".join(lines), number, at)
        # Nothing behind the line matters, but skipped lines before it count.
        self.check_bad("\n".join(lines[:number + 1]), number, at)
        self.check_bad("\n".join(lines[:number + 1] + ["", "?"]), number, at)
        self.check_bad("\n \n" + "\n".join(lines), number + 2, at)

    def test_written_families(self):
        self.assertEqual(read_family(TEXT), SHORT)
        self.assertEqual(read_family(write_family(NEVER)), NEVER)

    def test_spaces_and_skipped_lines(self):
        self.assertEqual(read_family("\n\n" + TEXT.replace("\n", "\n   \n") + "\n\n  \n"), SHORT)
        self.assertEqual(read_family(TEXT.replace(" ", "   ")), SHORT)
        tight = "names ab\nthings a\nstart0\nmarks0\n0:a/a0,a/-0,b/a0,b/-0,-/a1\n1:a/a1,a/-1,b/a1,b/-1,-/a1"
        self.assertEqual(read_family(tight), SHORT)
        self.assertEqual(read_family(" names  ab \n things a\n  start 0 \nmarks  0 \n" + "\n".join(LINES[4:])), SHORT)
        wide = "0 : a / a 0 , a / - 0 , b / a 0 , b / - 0 , - / a 1 "
        self.assertEqual(read_family("\n".join(LINES[:4] + [wide] + LINES[5:])), SHORT)

    def test_marks(self):
        for written, marks in (("marks", ()), ("marks ", ()), ("marks 1", (1,)), ("marks 0,1", (0, 1)), ("marks0 , 1", (0, 1))):
            self.assertEqual(read_family("\n".join(LINES[:3] + [written] + LINES[4:])), SHORT[:3] + (marks,) + SHORT[4:])

    def test_missing_lines(self):
        for text, line in (
            ("", 1), ("\n", 2), ("  ", 1), (" \n\n ", 3), ("names ab", 1), ("names ab\n", 2), ("\nnames ab\n\n", 4),
            ("names ab\nthings a\nstart 0", 3), ("names ab\nthings a\nstart 0\nmarks", 4),
            ("names ab\nthings a\nstart 0\nmarks 0\n", 5), ("names ab\n\nthings a\n\n\n", 6),
        ):
            self.check_bad(text, line, 0)

    def test_alphabets(self):
        for number, head in ((0, "names"), (1, "things")):
            for rest, at in (
                (" ba", 1), (" aa", 1), (" abcd", 1), (" ab c", 4), ("", 0), ("  ", 2), (" a1", 2), (" 1", 1), (" a,b", 2),
                (" A", 1), (" aB", 2), (" -", 1), (" a /", 3), (" ab\t", 3), (" abca", 1),
            ):
                self.check_line(number, head + rest, len(head) + at)
            for line, at in (("start 0", 0), (head.upper() + " a", 0), (head + "a", 0), (":" + head, 0), ("  name a", 2)):
                self.check_line(number, line, at)

    def test_start(self):
        for line, at in (
            ("start", 5), ("start ", 6), ("start a", 6), ("start -1", 6), ("start 00", 6), ("start 01", 6), ("start 0 0", 8),
            ("start 0,", 7), ("start 0a", 7), ("starts 0", 0), ("marks 0", 0), ("start 1.", 7), ("start\t0", 5),
        ):
            self.check_line(2, line, at)

    def test_faults_in_marks(self):
        for line, at in (
            ("marks 0,", 8), ("marks 0, ", 9), ("marks ,", 6), ("marks 0,,1", 8), ("marks 0 1", 8), ("marks 0; 1", 7),
            ("marks 0, a", 9), ("marks 0, 01", 9), ("marks a", 6), ("marks -", 6), ("mark 0", 0), ("0: a/a 0", 0), ("marks 0, 1 ,", 12),
        ):
            self.check_line(3, line, at)

    def test_states(self):
        for line, at in (
            ("1: a/a 0, a/- 0, b/a 0, b/- 0, -/a 1", 0), ("00: a/a 0", 0), ("a: a/a 0", 0), ("0", 1), ("0:", 2), ("0 a/a 0", 2),
            ("0: b/a 0", 3), ("0: a/b 0", 5), ("0: aa/a 0", 3), ("0: a/a", 6), ("0: a/a,", 6), ("0: a/a 0 a/- 0", 9),
            ("0: a/a 0,", 9), ("0: a/a 0, a/a 0", 12), ("0: a/a 0, b/a 0", 10), ("0: a/a 00", 7), ("0: a-a 0", 4),
            ("0: a/a 0, a/- 0, b/a 0, b/- 0", 29), ("0: a/a 0, a/- 0, b/a 0, b/- 0,", 30), ("0: -/a 0", 3),
            ("0: a/a 0, a/- 0, b/a 0, b/- 0, -/- 1", 33), ("0: a/a 0, a/- 0, b/a 0, b/- 0, -/a 1,", 36),
            ("0: a/a 0, a/- 0, b/a 0, b/- 0, -/a 1 -/- 0", 37), ("0: A/a 0", 3), ("0; a/a 0", 1), ("0: a/a -1", 7),
        ):
            self.check_line(4, line, at)
        for line, at in ((LINES[4], 0), ("2" + LINES[5][1:], 0), ("01" + LINES[5][1:], 0), ("names ab", 0), ("1: a/a 1.", 8)):
            self.check_line(5, line, at)
        self.check_bad(TEXT + "\n3: a/a 0", 6, 0)
        self.check_bad(TEXT + "\n\n2: a/a 0, ", 7, 10)
        self.check_bad(TEXT + "\nx", 6, 0)

    def test_the_first_fault_of_several(self):
        self.check_bad("names ba\nthings", 0, 6)
        self.check_bad("names ab\nthings\nstart x", 1, 6)
        self.check_bad("?\nnames ab", 0, 0)
        self.check_bad("names ab . ba", 0, 9)

    def test_more_than_nine_states(self):
        rows = [f"{at}: a/b {at}, a/- 0, -/b 11" for at in range(12)]
        family = read_family("\n".join(["names a", "things b", "start 11", "marks 2, 10"] + rows))
        self.assertEqual(family, ("a", "b", 11, (2, 10), tuple((at, 0, 11) for at in range(12))))
        self.check_bad("\n".join(["names a", "things b", "start 11", "marks"] + rows + ["11" + rows[11][2:]]), 16, 0)

    def test_no_family(self):
        for number, line in (
            (2, "start 2"), (2, "start " + "9" * 60), (3, "marks 1, 0"), (3, "marks 0, 0"), (3, "marks 2"), (3, "marks 0, 7"),
            (4, "0: a/a 0, a/- 0, b/a 0, b/- 0, -/a 2"), (5, "1: a/a 0, a/- 10, b/a 0, b/- 0, -/a 1"),
        ):
            with self.assertRaises(NoFamily) as caught:
                read_family("\n".join(LINES[:number] + [line] + LINES[number + 1:]))
            self.assertIsInstance(caught.exception, GuessError)
        # A text that cannot be read is told first.
        self.check_bad(TEXT.replace("start 0", "start 7") + "\n2", 6, 1)
        self.check_bad(TEXT.replace("marks 0", "marks 1, 0") + ".", 5, 36)

    def test_random_spaces(self):
        for seed in range(100):
            draw = random.Random(seed)
            family = random_family(seed)[0]
            lines = []
            for line in write_family(family).split("\n"):
                lines += [" " * draw.randint(0, 2)] * draw.randint(0, 1) + [spaced(draw, line)]
            self.assertEqual(read_family("\n".join(lines)), family)

    def test_random_faults(self):
        kinds = {"bad": 0, "family": 0, "none": 0}
        for seed in range(3000):
            draw = random.Random(seed)
            text = write_family(random_family(seed % 150)[0])
            for _ in range(draw.randint(1, 2)):
                text = mutated(draw, text)
            wrong = wrong_in_family(text)
            if wrong is not None:
                kinds["bad"] += 1
                self.check_bad(text, *wrong)
            else:
                try:
                    check_family(read_family(text))
                    kinds["family"] += 1
                except NoFamily:
                    kinds["none"] += 1
        self.assertGreater(min(kinds.values()), 20)


if __name__ == "__main__":
    unittest.main()

"""Sure lengths and first verdicts: promise [13]."""

import random
import unittest

from guessrests.bounds import is_bound, least_bound, verdict
from guessrests.names import alike, parting_thing
from guessrests.sure import first_verdict, is_sure, least_sure, unlike_holder
from samples import COLUMNS, NEVER, SHORT, family_with, random_family, random_word
from test_bounds import oracles
from test_names import BEGINS, SAME_LENGTH, plain_family


class TestExamples(unittest.TestCase):
    def test_of_the_document(self):
        short = ("ab", "a", 0, (0,), ((0, 0, 0, 0, 1), (1, 1, 1, 1, 1)))
        self.assertEqual(first_verdict(short), ("unsure", ""))


class TestUnlikeHolder(unittest.TestCase):
    def test_by_hand(self):
        self.assertEqual([unlike_holder(SHORT, "ab", n) for n in range(5)], ["", "a", "aaa", "aaa", "aaa"])
        self.assertEqual([unlike_holder(SHORT, "", n) for n in range(3)], ["a", "a", "a"])
        self.assertEqual([unlike_holder(NEVER, "b", n) for n in range(4)], ["", "a", "aa", "aaa"])
        self.assertEqual([unlike_holder(SAME_LENGTH, "bb", n) for n in range(4)], ["", "", None, None])
        self.assertEqual([unlike_holder(SAME_LENGTH, "", n) for n in range(3)], [None, None, None])
        self.assertEqual([unlike_holder(BEGINS, "ab", n) for n in range(4)], ["", "", "", ""])
        self.assertEqual([unlike_holder(BEGINS, "", n) for n in range(3)], [None] * 3)

    def test_great_lengths(self):
        self.assertEqual(unlike_holder(NEVER, "a" * 59 + "b", 60), "a" * 60)
        self.assertEqual(unlike_holder(SHORT, "ab" * 30, 60), "a" * 61)
        self.assertEqual(unlike_holder(SAME_LENGTH, "ab" * 30, 59), "")
        self.assertIsNone(unlike_holder(SAME_LENGTH, "ab" * 30, 60))

    def test_one_state(self):
        for alphabets in COLUMNS:
            for marks in ((), (0,)):
                for n in (0, 60):
                    self.assertIsNone(unlike_holder(plain_family(alphabets, marks), alphabets[0], n))

    def test_as_all_small_names_and_things_tell(self):
        for oracle in oracles():
            for name in oracle.names:
                for n in range(5):
                    holder = unlike_holder(oracle.family, name, n)
                    small = oracle.unlike_holders(name, n)
                    self.assertIs(is_sure(oracle.family, name, n), holder is None)
                    if small or holder in oracle.sets:
                        self.assertEqual(holder, small[0] if small else None, (oracle.family, name, n))
                    elif holder is not None:
                        self.check_holder(oracle.family, name, n, holder)

    def check_holder(self, family, name, n, holder):
        self.assertIs(alike(family, name, holder), False)
        parting = parting_thing(family, name, holder)
        self.assertTrue(parting is None or len(parting) > n, (family, name, n, holder))

    def test_random_families_with_long_names(self):
        for seed in range(40):
            family = random_family(seed)[0]
            if len(family[4]) > 6:
                continue
            draw = random.Random(seed)
            name, n = random_word(draw, family[0], 60), draw.randint(0, 60)
            holder = unlike_holder(family, name, n)
            self.assertIs(is_sure(family, name, n), holder is None)
            if holder is not None:
                self.check_holder(family, name, n, holder)


class TestSureLengths(unittest.TestCase):
    def test_by_hand(self):
        for many in range(6):
            self.assertIsNone(least_sure(SHORT, "b" * many))
            self.assertIsNone(least_sure(NEVER, "a" * many))
            self.assertIsNone(least_sure(NEVER, "a" * many + "b"))
            self.assertEqual(least_sure(SAME_LENGTH, "b" * many), many)
        self.assertEqual(least_sure(BEGINS, ""), 0)
        self.assertIsNone(least_sure(BEGINS, "a"))
        self.assertIs(type(least_sure(SAME_LENGTH, "")), int)

    def test_above_and_below(self):
        self.assertEqual([is_sure(SAME_LENGTH, "ab", n) for n in (0, 1, 2, 3, 60)], [False, False, True, True, True])
        self.assertEqual([is_sure(SHORT, "ab", n) for n in (0, 2, 60)], [False] * 3)

    def test_sixty_letters(self):
        self.assertEqual(least_sure(SAME_LENGTH, "ab" * 30), 60)
        self.assertIsNone(least_sure(SHORT, "ab" * 30))
        self.assertIs(is_sure(SAME_LENGTH, "ab" * 30, 59), False)

    def test_one_state(self):
        for alphabets in COLUMNS:
            for marks in ((), (0,)):
                self.assertEqual(least_sure(plain_family(alphabets, marks), alphabets[0]), 0)

    def test_no_marks_and_all_marks(self):
        for seed in range(30):
            family = random_family(seed)[0]
            for marks in ((), tuple(range(len(family[4])))):
                marked = family[:3] + (marks,) + family[4:]
                self.assertEqual(least_sure(marked, family[0] * 15), 0)
                self.assertIsNone(unlike_holder(marked, family[0], 0))
                self.assertEqual(first_verdict(marked), ("sure",))

    def test_least_sure_and_is_sure_agree(self):
        for oracle in oracles():
            for name in oracle.names:
                length = least_sure(oracle.family, name)
                if length is None:
                    for n in (0, 1, 2, 9, 40):
                        self.assertIs(is_sure(oracle.family, name, n), False, (oracle.family, name, n))
                else:
                    for n in (length, length + 1, length + 20):
                        self.assertIs(is_sure(oracle.family, name, n), True, (oracle.family, name, n))
                        self.assertIs(is_bound(oracle.family, name, n), True)
                    if length:
                        self.assertIs(is_sure(oracle.family, name, length - 1), False)
                    self.assertLessEqual(least_bound(oracle.family, name), length)


class TestFirstVerdict(unittest.TestCase):
    def test_by_hand(self):
        self.assertEqual(first_verdict(SAME_LENGTH), ("sure",))
        self.assertEqual(first_verdict(NEVER), ("unsure", ""))
        self.assertEqual(first_verdict(BEGINS), ("unsure", "a"))
        for alphabets in COLUMNS:
            for marks in ((), (0,)):
                self.assertEqual(first_verdict(plain_family(alphabets, marks)), ("sure",))

    def test_an_unsure_name_that_lies_within_no_other_one(self):
        # The empty name has all things without a b; each other name has b, and those of them that are not longer.
        family = ("a", "ab", 0, (0, 1, 2, 3), (
            (2, 3, 3, 1, 4), (4, 4, 4, 1, 4), (2, 4, 3, 4, 4), (4, 4, 3, 4, 4), (4, 4, 4, 4, 4),
        ))
        self.assertEqual([unlike_holder(family, "", n) for n in range(4)], ["a", "a", "aa", "aaa"])
        self.assertEqual([parting_thing(family, "", "a" * many) for many in (1, 2)], ["aa", "aaa"])
        self.assertIsNone(least_sure(family, ""))
        self.assertEqual(least_bound(family, ""), 0)
        self.assertEqual(verdict(family), ("rests",))
        self.assertEqual(first_verdict(family), ("unsure", ""))

    def test_longer_names_that_lie_within_no_other_one(self):
        # In the first two families no name lies within an unlike one; in the last one baaa is the first that does.
        both = ("ab", "ab", 1, (1, 2), (
            (2, 2, 0, 1, 0, 3, 2, 3), (3, 2, 0, 0, 2, 3, 1, 3), (2, 2, 3, 2, 2, 2, 0, 2), (3, 2, 2, 0, 0, 3, 2, 0),
        ))
        families = (
            (("a", "b", 0, (2,), ((1, 1, 2), (2, 0, 0), (0, 2, 1))), "aa", ["", "a"]),
            (("a", "b", 0, (0, 1, 2), ((1, 2, 4), (3, 0, 2), (1, 0, 4), (2, 3, 1), (0, 2, 1))), "aa", ["", "a"]),
            (both, "ba", ["", "a", "b", "aa", "ab"]),
        )
        for family, name, earlier in families:
            self.assertEqual(first_verdict(family), ("unsure", name))
            for other in earlier:
                self.assertIsNotNone(least_sure(family, other))
            self.assertIsNone(least_sure(family, name))
            for n in range(12):
                holder = unlike_holder(family, name, n)
                self.assertIsNotNone(holder)
                self.assertIsNotNone(parting_thing(family, name, holder))

    def test_a_long_first_name_that_is_unsure(self):
        # The names have the one thing of their own length; but from aaa on all have one thing more.
        steps = (
            (1, 5, 5, 5, 5), (2, 5, 5, 5, 5), (3, 5, 5, 5, 5), (3, 3, 3, 3, 4), (4, 4, 4, 4, 5), (5, 5, 5, 5, 5),
        )
        family = ("ab", "a", 0, (0, 1, 2, 3, 4), steps)
        answer = first_verdict(family)
        names = ["", "a", "b", "aa", "ab", "ba", "bb", "aaa"]
        without = [name for name in names if least_sure(family, name) is None]
        self.assertEqual(answer, ("unsure", without[0]))

    def test_as_all_small_names_tell(self):
        kinds = []
        for oracle in oracles():
            answer = first_verdict(oracle.family)
            self.assertIs(type(answer), tuple)
            kinds.append(answer[0])
            without = [name for name in oracle.names if least_sure(oracle.family, name) is None]
            if answer == ("sure",):
                self.assertEqual(without, [])
                self.assertEqual(verdict(oracle.family), ("rests",))
            else:
                self.assertEqual(answer[0], "unsure")
                self.assertIsNone(least_sure(oracle.family, answer[1]))
                if without or answer[1] in oracle.names:
                    self.assertEqual(answer, ("unsure", without[0]))
        self.assertGreater(kinds.count("unsure"), 5)
        self.assertGreater(kinds.count("sure"), 5)

    def test_six_states(self):
        for seed in range(12):
            for alphabets in (("ab", "a"), ("ab", "ab"), ("abc", "b"), ("z", "abc")):
                family = family_with(alphabets, 6, seed)
                answer = first_verdict(family)
                if answer != ("sure",):
                    self.assertIsNone(least_sure(family, answer[1]))


if __name__ == "__main__":
    unittest.main()

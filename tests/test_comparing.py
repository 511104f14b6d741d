"""Families compared: promises [26] and [27], and the things of several names."""

import random
import unittest

from guessrests.comparing import (
    count_sets, difference, first_name_at, foreign_name, opposite, swapped, thing_of_all, thing_of_one,
)
from guessrests.families import belongs, check_family
from guessrests.names import alike, least_alike
from oracles import Oracle
from samples import COLUMNS, NEVER, SHORT, family_of, family_with, random_family, random_word, words_of
from test_names import BEGINS, SAME_LENGTH, plain_family

# Alphabets, states, letters of all names and of things, families.
SMALL = (
    (("ab", "a"), 1, 3, 6, 3),
    (("ab", "a"), 2, 6, 12, 25),
    (("ab", "a"), 3, 6, 18, 25),
    (("a", "b"), 3, 12, 22, 25),
    (("ab", "ab"), 2, 5, 7, 20),
    (("ab", "ab"), 3, 5, 7, 10),
    (("z", "abc"), 2, 6, 7, 10),
    (("abc", "b"), 2, 4, 12, 10),
    (("abc", "abc"), 2, 3, 5, 5),
)

# Things with at most n letters belong to the names that have n letters, but no more than three.
FOUR_SETS = family_of(("a", "b"), 0, (0, 1, 2, 3), [
    {("a", "b"): 1, ("a", ""): 0, ("", "b"): 4},
    {("a", "b"): 2, ("a", ""): 1, ("", "b"): 4},
    {("a", "b"): 3, ("a", ""): 2, ("", "b"): 4},
    {("a", "b"): 4, ("a", ""): 3, ("", "b"): 4},
    {("a", "b"): 4, ("a", ""): 4, ("", "b"): 4},
])


def oracles(first_seed):
    """An oracle for each of many small families."""
    for alphabets, states, far, letters, many in SMALL:
        for seed in range(many):
            yield Oracle(family_with(alphabets, states, first_seed + seed), far, far, letters)


def pairs():
    """Two oracles for families with the same alphabets and nearly as many states."""
    for alphabets, states, far, letters, many in SMALL:
        for seed in range(many):
            other = family_with(alphabets, max(1, states - seed % 2), 400 + seed)
            yield Oracle(family_with(alphabets, states, seed), far, far, letters), Oracle(other, far, far, letters)


class TestExamples(unittest.TestCase):
    def test_of_the_document(self):
        short = ("ab", "a", 0, (0,), ((0, 0, 0, 0, 1), (1, 1, 1, 1, 1)))
        never = ("ab", "a", 0, (0, 2), ((0, 0, 2, 2, 1), (1, 1, 2, 2, 1), (2, 2, 2, 2, 2)))
        self.assertEqual(difference(short, never), ("b", "aa"))


class TestOpposite(unittest.TestCase):
    def test_by_hand(self):
        self.assertEqual(opposite(SHORT), SHORT[:3] + ((1,),) + SHORT[4:])
        self.assertEqual(opposite(NEVER), NEVER[:3] + ((1,),) + NEVER[4:])
        for alphabets in COLUMNS:
            self.assertEqual(opposite(plain_family(alphabets, ())), plain_family(alphabets, (0,)))
            self.assertEqual(opposite(plain_family(alphabets, (0,))), plain_family(alphabets, ()))

    def test_random_families(self):
        for seed in range(60):
            family = random_family(seed)[0]
            other = opposite(family)
            check_family(other)
            self.assertIs(type(other[3]), tuple)
            self.assertEqual(other[:3] + other[4:], family[:3] + family[4:])
            self.assertEqual(sorted(other[3] + family[3]), list(range(len(family[4]))))
            self.assertEqual(opposite(other), family)
            draw = random.Random(seed)
            for _ in range(5):
                name, thing = random_word(draw, family[0], 9), random_word(draw, family[1], 9)
                self.assertIsNot(belongs(family, name, thing), belongs(other, name, thing))


class TestSwapped(unittest.TestCase):
    def test_by_hand(self):
        self.assertEqual(swapped(SHORT), ("a", "ab", 0, (0,), ((0, 0, 1, 0, 0), (1, 1, 1, 1, 1))))
        turned = ((0, 2, 1, 0, 2), (1, 2, 1, 1, 2), (2, 2, 2, 2, 2))
        self.assertEqual(swapped(NEVER), ("a", "ab", 0, (0, 2), turned))

    def test_random_families(self):
        for seed in range(60):
            family = random_family(seed)[0]
            other = swapped(family)
            check_family(other)
            self.assertEqual(other[:4], (family[1], family[0]) + family[2:4])
            self.assertEqual(len(other[4]), len(family[4]))
            self.assertEqual(swapped(other), family)
            draw = random.Random(seed)
            for _ in range(8):
                name, thing = random_word(draw, family[0], 9), random_word(draw, family[1], 9)
                self.assertIs(belongs(family, name, thing), belongs(other, thing, name))


class TestDifference(unittest.TestCase):
    def test_by_hand(self):
        self.assertEqual(difference(NEVER, SHORT), ("b", "aa"))
        self.assertEqual(difference(SHORT, SAME_LENGTH), ("a", ""))
        self.assertEqual(difference(SHORT, opposite(SHORT)), ("", ""))
        for family in (SHORT, NEVER, SAME_LENGTH, BEGINS, FOUR_SETS):
            self.assertIsNone(difference(family, family))

    def test_the_same_sets_by_another_machine(self):
        # A state more that is never reached, and the states in another order.
        more = ("ab", "a", 1, (1, 2), ((0, 0, 0, 0, 0), (1, 1, 1, 1, 0), (2, 0, 1, 2, 0)))
        self.assertIsNone(difference(SHORT, more))
        self.assertIsNone(difference(more, SHORT))

    def test_a_long_name(self):
        # The name aaaa has one thing more in the first family than in the second one.
        rows = [(at + 1 if at < 5 else 5,) * 2 for at in range(6)]
        one = ("a", "b", 0, (4,), tuple((row[0], 5, 5) for row in rows))
        self.assertEqual(difference(one, plain_family(("a", "b"), ())), ("aaaa", "bbbb"))

    def test_as_small_names_tell(self):
        found = 0
        for one, other in pairs():
            answer = difference(one.family, other.family)
            self.assertEqual(answer, difference(other.family, one.family))
            small = [name for name in one.names if one.sets[name] != other.sets[name]]
            if small:
                found += 1
                thing = one.things[min(one.sets[small[0]] ^ other.sets[small[0]])]
                self.assertEqual(answer, (small[0], thing))
            elif answer is not None:
                self.assertNotIn(answer[0], one.names)
                self.assertIsNot(belongs(one.family, *answer), belongs(other.family, *answer))
        self.assertGreater(found, 50)


class TestForeignName(unittest.TestCase):
    def test_by_hand(self):
        self.assertIsNone(foreign_name(SHORT, NEVER))
        self.assertEqual(foreign_name(NEVER, SHORT), "b")
        self.assertEqual(foreign_name(SHORT, SAME_LENGTH), "a")
        self.assertEqual(foreign_name(SAME_LENGTH, SHORT), "a")
        self.assertEqual(foreign_name(BEGINS, opposite(BEGINS)), "")
        self.assertIsNone(foreign_name(BEGINS, BEGINS))

    def test_other_alphabets_of_names(self):
        # The same sets, but with names over another alphabet.
        longer = ("xyz", "a", 0, (0,), ((0, 0, 0, 0, 0, 0, 1), (1,) * 7))
        self.assertIsNone(foreign_name(SHORT, longer))
        self.assertIsNone(foreign_name(longer, SHORT))
        self.assertEqual(foreign_name(NEVER, longer), "b")
        self.assertIsNone(foreign_name(longer, NEVER))
        self.assertEqual(foreign_name(longer, SAME_LENGTH), "x")
        self.assertEqual(foreign_name(longer, ("b", "a", 0, (0,), ((0, 0, 0),))), "")

    def test_as_small_names_tell(self):
        kinds, alone = [0, 0], 0
        for one, other in pairs():
            answer = foreign_name(one.family, other.family)
            kinds[answer is None] += 1
            known = set(other.sets.values())
            small = [name for name in words_of(one.family[0], 2) if one.sets[name] not in known]
            if answer in one.sets:
                self.assertNotIn(one.sets[answer], known)
            if answer is not None and len(answer) <= 2:
                self.assertIn(answer, small)
            # A set of a small name may be that of a long name of the other family.
            alone += len([name for name in small[:1] if name != answer])
        self.assertGreater(min(kinds), 10)
        self.assertLess(alone, 8)

    def test_within_one_family(self):
        for oracle in oracles(900):
            self.assertIsNone(foreign_name(oracle.family, oracle.family))


class TestSets(unittest.TestCase):
    def test_by_hand(self):
        self.assertIsNone(count_sets(SHORT))
        self.assertEqual([first_name_at(SHORT, n) for n in range(4)], ["", "a", "aa", "aaa"])
        self.assertIsNone(count_sets(NEVER))
        self.assertEqual([first_name_at(NEVER, n) for n in range(5)], ["", "a", "b", "aa", "aaa"])
        self.assertEqual([first_name_at(BEGINS, n) for n in range(8)], words_of("ab", 2) + ["aaa"])
        self.assertEqual(count_sets(FOUR_SETS), 4)
        self.assertEqual([first_name_at(FOUR_SETS, n) for n in range(6)], ["", "a", "aa", "aaa", None, None])
        self.assertEqual(first_name_at(SHORT, 50), "a" * 50)
        self.assertEqual([first_name_at(SHORT, n) for n in (-1, -60)], [None, None])

    def test_one_state(self):
        for alphabets in COLUMNS:
            for marks in ((), (0,)):
                family = plain_family(alphabets, marks)
                self.assertEqual(count_sets(family), 1)
                self.assertEqual([first_name_at(family, n) for n in (-1, 0, 1, 50)], [None, "", None, None])

    def test_as_small_names_tell(self):
        kinds = [0, 0]
        for oracle in oracles(0):
            count = count_sets(oracle.family)
            kinds[count is None] += 1
            firsts, met = [], set()
            for name in oracle.names:
                if oracle.sets[name] not in met:
                    met.add(oracle.sets[name])
                    firsts.append(name)
            answers = [first_name_at(oracle.family, n) for n in range(8)]
            there = [name for name in answers if name is not None]
            self.assertEqual(len(there), 8 if count is None else min(count, 8))
            small = [name for name in there if name in oracle.sets]
            self.assertEqual(small, firsts[:len(small)])
            if len(small) < len(there):
                self.assertEqual(len(small), len(firsts))
            for name in there:
                self.assertEqual(least_alike(oracle.family, name), name)
        self.assertGreater(min(kinds), 10)

    def test_first_names_are_unlike(self):
        for oracle in list(oracles(50))[::3]:
            names = [first_name_at(oracle.family, n) for n in range(6)]
            names = [name for name in names if name is not None]
            for name in names:
                self.assertEqual([alike(oracle.family, name, other) for other in names].count(True), 1)


class TestThingsOfNames(unittest.TestCase):
    def test_by_hand(self):
        self.assertEqual(thing_of_all(SHORT, []), "")
        self.assertEqual(thing_of_all(plain_family(("a", "b"), ()), []), "")
        self.assertIsNone(thing_of_one(SHORT, []))
        self.assertIsNone(thing_of_all(BEGINS, ["a", "b"]))
        self.assertEqual(thing_of_all(BEGINS, ["ab", "", "aba"]), "aba")
        self.assertEqual(thing_of_one(BEGINS, ["ab", "a", "aba"]), "a")
        self.assertEqual(thing_of_one(BEGINS, ["", "a", "ba"]), "")
        self.assertEqual(thing_of_one(BEGINS, ["", "", "ba"]), None)
        self.assertEqual(thing_of_one(BEGINS, ["a", "b", "", ""]), None)
        self.assertEqual(thing_of_one(SHORT, ["a", "ab", "aab"]), "aaa")
        self.assertIsNone(thing_of_one(SHORT, ["ab", "ba"]))
        self.assertEqual(thing_of_all(SAME_LENGTH, ["ab"] * 6), "aa")
        self.assertIsNone(thing_of_one(SAME_LENGTH, ["ab"] * 6))
        self.assertIsNone(thing_of_all(plain_family(("a", "b"), ()), ["a"]))

    def test_sixty_letters(self):
        self.assertEqual(thing_of_all(BEGINS, ["ab" * 30, "ab"]), "ab" * 30)
        self.assertEqual(thing_of_one(SHORT, ["a" * 60, "b" * 59, "a"]), "a" * 60)

    def test_as_small_things_tell(self):
        found = [0, 0]
        for number, oracle in enumerate(oracles(200)):
            draw = random.Random(number)
            for many in (0, 1, 2, 3, 6):
                names = [draw.choice(oracle.names) for _ in range(many)]
                told = list(names)
                counts = [sum(at in oracle.sets[name] for name in names) for at in range(len(oracle.things))]
                for answer, wanted in ((thing_of_all(oracle.family, names), many), (thing_of_one(oracle.family, names), 1)):
                    small = counts.index(wanted) if wanted in counts else None
                    found[answer is None] += 1
                    if small is not None:
                        self.assertEqual(answer, oracle.things[small])
                    elif answer is not None:
                        self.assertNotIn(answer, oracle.things)
                        self.assertEqual(sum(oracle.belongs(name, answer) for name in names), wanted)
                self.assertEqual(names, told)
        self.assertGreater(min(found), 50)


if __name__ == "__main__":
    unittest.main()

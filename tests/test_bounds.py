"""Traps, bounds and verdicts: promises [11] and [12]."""

import random
import unittest

from guessrests.bounds import is_bound, least_bound, trap_for, verdict
from guessrests.names import alike, parting_thing, within
from oracles import Oracle
from samples import COLUMNS, NEVER, SHORT, family_with, random_family, random_word
from test_names import BEGINS, SAME_LENGTH, plain_family

# Alphabets, states, letters of names, of all names that are tried, and of things, families.
SMALL = (
    (("ab", "a"), 2, 2, 6, 12, 25),
    (("ab", "a"), 3, 2, 6, 16, 25),
    (("ab", "a"), 4, 1, 6, 18, 20),
    (("a", "b"), 3, 3, 12, 22, 25),
    (("ab", "ab"), 2, 2, 5, 7, 20),
    (("z", "abc"), 2, 2, 6, 7, 10),
    (("abc", "b"), 2, 2, 4, 12, 15),
)


def oracles():
    """An oracle for each of many small families."""
    for alphabets, states, longest, far, letters, many in SMALL:
        for seed in range(many):
            yield Oracle(family_with(alphabets, states, seed), longest, far, letters)


class TestExamples(unittest.TestCase):
    def test_of_the_document(self):
        short = ("ab", "a", 0, (0,), ((0, 0, 0, 0, 1), (1, 1, 1, 1, 1)))
        never = ("ab", "a", 0, (0, 2), ((0, 0, 2, 2, 1), (1, 1, 2, 2, 1), (2, 2, 2, 2, 2)))
        self.assertEqual((verdict(short), verdict(never)), (("rests",), ("never", "b")))
        self.assertEqual((least_bound(short, "ab"), trap_for(never, "b", 2)), (2, "aa"))


class TestTraps(unittest.TestCase):
    def test_by_hand(self):
        self.assertEqual([trap_for(SHORT, "bab", n) for n in range(5)], ["", "a", "aa", None, None])
        self.assertEqual([trap_for(NEVER, "b", n) for n in range(5)], ["", "a", "aa", "aaa", "aaaa"])
        self.assertEqual([trap_for(NEVER, "aa", n) for n in range(4)], ["", "a", None, None])
        # The names within one that a thing begins with are the longer ones.
        self.assertEqual([trap_for(BEGINS, "b", n) for n in range(3)], ["ba", None, None])
        self.assertEqual(trap_for(BEGINS, "", 0), None)
        self.assertEqual([trap_for(SAME_LENGTH, "ab", n) for n in range(4)], [None] * 4)

    def test_great_lengths(self):
        self.assertEqual(trap_for(NEVER, "b", 60), "a" * 60)
        self.assertEqual(trap_for(NEVER, "a" * 59 + "b", 60), "a" * 60)
        self.assertEqual(trap_for(SHORT, "ab" * 30, 59), "a" * 59)
        self.assertIsNone(trap_for(SHORT, "ab" * 30, 60))
        self.assertEqual(trap_for(BEGINS, "ab" * 30, 59), "ab" * 30 + "a")
        self.assertIsNone(trap_for(BEGINS, "ab" * 30, 60))

    def test_one_state(self):
        for alphabets in COLUMNS:
            for marks in ((), (0,)):
                for n in (0, 1, 60):
                    self.assertIsNone(trap_for(plain_family(alphabets, marks), alphabets[0], n))

    def test_as_all_small_names_and_things_tell(self):
        for oracle in oracles():
            for name in oracle.names:
                for n in range(5):
                    trap = trap_for(oracle.family, name, n)
                    small = oracle.traps(name, n)
                    self.assertIs(is_bound(oracle.family, name, n), trap is None)
                    if small or trap in oracle.sets:
                        self.assertEqual(trap, small[0] if small else None, (oracle.family, name, n))
                    elif trap is not None:
                        self.check_trap(oracle.family, name, n, trap)

    def check_trap(self, family, name, n, trap):
        self.assertIs(within(family, trap, name), True)
        self.assertIs(alike(family, trap, name), False)
        self.assertGreater(len(parting_thing(family, name, trap)), n)

    def test_random_families_with_long_names(self):
        for seed in range(40):
            family = random_family(seed)[0]
            if len(family[4]) > 6:
                continue
            draw = random.Random(seed)
            name, n = random_word(draw, family[0], 60), draw.randint(0, 60)
            trap = trap_for(family, name, n)
            self.assertIs(is_bound(family, name, n), trap is None)
            if trap is not None:
                self.check_trap(family, name, n, trap)


class TestBounds(unittest.TestCase):
    def test_by_hand(self):
        for many in range(6):
            self.assertEqual(least_bound(SHORT, "b" * many), many)
            self.assertEqual(least_bound(NEVER, "a" * many), many)
            self.assertIsNone(least_bound(NEVER, "a" * many + "b"))
            self.assertEqual(least_bound(BEGINS, "b" * many), many)
            self.assertEqual(least_bound(SAME_LENGTH, "b" * many), 0)
        self.assertIs(type(least_bound(SHORT, "")), int)

    def test_above_and_below(self):
        self.assertEqual([is_bound(SHORT, "ab", n) for n in (0, 1, 2, 3, 60)], [False, False, True, True, True])
        self.assertEqual([is_bound(NEVER, "b", n) for n in (0, 1, 2, 30, 60)], [False] * 5)

    def test_sixty_letters(self):
        self.assertEqual(least_bound(SHORT, "ab" * 30), 60)
        self.assertEqual(least_bound(NEVER, "a" * 60), 60)
        self.assertEqual(least_bound(BEGINS, "ab" * 30), 60)
        self.assertIsNone(least_bound(NEVER, "a" * 59 + "b"))

    def test_one_state(self):
        for alphabets in COLUMNS:
            for marks in ((), (0,)):
                self.assertEqual(least_bound(plain_family(alphabets, marks), alphabets[0]), 0)

    def test_no_marks_and_all_marks(self):
        for seed in range(30):
            family = random_family(seed)[0]
            for marks in ((), tuple(range(len(family[4])))):
                marked = family[:3] + (marks,) + family[4:]
                self.assertEqual(least_bound(marked, family[0]), 0)
                self.assertEqual(verdict(marked), ("rests",))

    def test_least_bound_and_is_bound_agree(self):
        for oracle in oracles():
            for name in oracle.names:
                bound = least_bound(oracle.family, name)
                if bound is None:
                    for n in (0, 1, 2, 9, 40):
                        self.assertIs(is_bound(oracle.family, name, n), False, (oracle.family, name, n))
                else:
                    self.assertIs(is_bound(oracle.family, name, bound), True, (oracle.family, name, bound))
                    self.assertIs(is_bound(oracle.family, name, bound + 1), True)
                    self.assertIs(is_bound(oracle.family, name, bound + 20), True)
                    if bound:
                        self.assertIs(is_bound(oracle.family, name, bound - 1), False)
                    parting = [
                        len(oracle.parting_thing(name, other)) for other in oracle.far_names
                        if oracle.sets[other] < oracle.sets[name]
                    ]
                    self.assertLessEqual(max(parting, default=0), bound)

    def test_a_bound_that_is_longer_than_the_name(self):
        found = [0, 0]
        for seed in range(200):
            family = family_with(("ab", "a"), 4, seed)
            bound = least_bound(family, "")
            found[bound is None] += 1
            if bound:
                self.assertIs(is_bound(family, "", bound), True)
                self.assertIs(is_bound(family, "", bound - 1), False)
                # A trap for one length less needs a thing with just as many letters as the bound.
                trap = trap_for(family, "", bound - 1)
                self.assertEqual(len(parting_thing(family, "", trap)), bound)
        self.assertGreater(min(found), 5)


class TestVerdict(unittest.TestCase):
    def test_by_hand(self):
        self.assertEqual(verdict(BEGINS), ("rests",))
        self.assertEqual(verdict(SAME_LENGTH), ("rests",))
        # The names with two letters or more have all things, the other ones at most that many letters.
        late = ("a", "b", 0, (0, 1, 2), ((1, 1, 3), (2, 2, 3), (2, 2, 2), (3, 3, 3)))
        self.assertEqual(verdict(late), ("rests",))
        # The names with a b at the second place have all things, other ones those that are not longer.
        second = ("ab", "a", 0, (0, 1, 2, 4), (
            (1, 1, 1, 1, 3), (2, 2, 4, 4, 3), (2, 2, 2, 2, 3), (3, 3, 3, 3, 3), (4, 4, 4, 4, 4),
        ))
        self.assertEqual(verdict(second), ("never", "ab"))
        self.assertIsNone(least_bound(second, "bb"))
        self.assertEqual(least_bound(second, "ba"), 2)

    def test_as_all_small_names_tell(self):
        kinds = []
        for oracle in oracles():
            answer = verdict(oracle.family)
            self.assertIs(type(answer), tuple)
            kinds.append(answer[0])
            without = [name for name in oracle.names if least_bound(oracle.family, name) is None]
            if answer == ("rests",):
                self.assertEqual(without, [])
            else:
                self.assertEqual(answer[0], "never")
                self.assertIsNone(least_bound(oracle.family, answer[1]))
                if without or answer[1] in oracle.names:
                    self.assertEqual(answer, ("never", without[0]))
        self.assertGreater(kinds.count("never"), 5)
        self.assertGreater(kinds.count("rests"), 5)

    def test_a_first_name_without_a_bound_that_is_long(self):
        # Names that begin with aaab have all things, other ones those that are not longer.
        rows = [{column: 0 for column in COLUMNS["ab", "a"]} for _ in range(6)]
        for state in range(4):
            for column in COLUMNS["ab", "a"]:
                on = state + 1 if column[0] == ("b" if state == 3 else "a") else 4
                rows[state][column] = 5 if column[0] == "" else (6 if state == 3 and column[0] == "b" else min(on, 4))
        rows[4] = {column: 5 if column[0] == "" else 4 for column in COLUMNS["ab", "a"]}
        rows[5] = {column: 5 for column in COLUMNS["ab", "a"]}
        rows.append({column: 6 for column in COLUMNS["ab", "a"]})
        steps = tuple(tuple(row[column] for column in COLUMNS["ab", "a"]) for row in rows)
        family = ("ab", "a", 0, (0, 1, 2, 3, 4, 6), steps)
        self.assertEqual(verdict(family), ("never", "aaab"))

    def test_six_states(self):
        for seed in range(12):
            for alphabets in (("ab", "a"), ("ab", "ab"), ("abc", "abc"), ("z", "abc")):
                family = family_with(alphabets, 6, seed)
                answer = verdict(family)
                if answer != ("rests",):
                    self.assertIsNone(least_bound(family, answer[1]))
                    for n in (0, 7, 30):
                        self.assertIs(is_bound(family, answer[1], n), False)


if __name__ == "__main__":
    unittest.main()

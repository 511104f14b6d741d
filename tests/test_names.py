"""Single names: promises [6] and [10], and [2] to [4] for the functions of guessrests.names."""

import random
import unittest

from guessrests.families import belongs
from guessrests.names import (
    alike, count_of, least_alike, least_new_thing, parting_thing, thing_at, things_up_to, within,
)
from guessrests.words import word_at, words_up_to
from oracles import Oracle
from samples import COLUMNS, NEVER, SHORT, family_of, family_with, random_family, random_word, words_of

# Alphabets, states, letters of names, of all names that are tried, and of things, families.
SMALL = (
    (("ab", "a"), 2, 3, 3, 8, 30),
    (("ab", "a"), 3, 3, 3, 13, 30),
    (("a", "b"), 4, 5, 5, 22, 30),
    (("ab", "ab"), 2, 3, 3, 7, 25),
    (("z", "abc"), 2, 2, 2, 6, 15),
    (("abc", "b"), 3, 2, 2, 12, 20),
    (("abc", "abc"), 1, 1, 1, 3, 5),
    (("bz", "amz"), 1, 2, 2, 3, 5),
)

# A thing belongs to a name if it is as long as the name.
SAME_LENGTH = ("ab", "a", 0, (0,), ((0, 1, 0, 1, 1), (1, 1, 1, 1, 1)))
# A thing belongs to a name if it begins with the name, letter by letter.
BEGINS = family_of(("ab", "ab"), 0, (0,), [
    {column: int(column[0] not in ("", column[1])) for column in COLUMNS["ab", "ab"]},
    {column: 1 for column in COLUMNS["ab", "ab"]},
])


def plain_family(alphabets, marks):
    """A family with one state, marked or not."""
    return alphabets + (0, marks, ((0,) * len(COLUMNS[alphabets]),))


def oracles():
    """An oracle for each of many small families."""
    for alphabets, states, longest, far, letters, many in SMALL:
        for seed in range(many):
            yield Oracle(family_with(alphabets, states, seed), longest, far, letters)


class TestExamples(unittest.TestCase):
    def test_of_the_document(self):
        short = ("ab", "a", 0, (0,), ((0, 0, 0, 0, 1), (1, 1, 1, 1, 1)))
        self.assertEqual((count_of(short, "ab"), least_alike(short, "ba")), (3, "aa"))


class TestWithinAndAlike(unittest.TestCase):
    def check(self, family, name, other, inside):
        self.assertIs(within(family, name, other), inside, (family, name, other))

    def test_by_hand(self):
        for name in words_of("ab", 4):
            for other in words_of("ab", 4):
                self.check(SHORT, name, other, len(name) <= len(other))
                self.check(NEVER, name, other, "b" in other or "b" not in name and len(name) <= len(other))
                self.check(SAME_LENGTH, name, other, len(name) == len(other))
                self.check(BEGINS, name, other, name.startswith(other))
                self.assertIs(alike(SHORT, name, other), len(name) == len(other))
                self.assertIs(alike(BEGINS, name, other), name == other)
                both = "b" in name and "b" in other or "b" not in name + other and len(name) == len(other)
                self.assertIs(alike(NEVER, name, other), both)

    def test_as_all_small_things_tell(self):
        for oracle in oracles():
            for name in oracle.names:
                for other in oracle.names:
                    own, others = oracle.sets[name], oracle.sets[other]
                    self.check(oracle.family, name, other, own <= others)
                    self.assertIs(alike(oracle.family, name, other), own == others, (oracle.family, name, other))

    def test_one_state(self):
        for alphabets in COLUMNS:
            for marks in ((), (0,)):
                family = plain_family(alphabets, marks)
                for name in words_of(alphabets[0], 2):
                    self.check(family, name, "", True)
                    self.check(family, "", name, True)
                    self.assertIs(alike(family, name, ""), True)

    def test_sixty_letters(self):
        self.check(SHORT, "ab" * 30, "b" * 60, True)
        self.check(SHORT, "ab" * 30, "b" * 59, False)
        self.check(BEGINS, "ab" * 30, "ab" * 29, True)
        self.check(BEGINS, "ab" * 29, "ab" * 30, False)
        self.check(NEVER, "a" * 60, "a" * 59 + "b", True)
        self.assertIs(alike(SHORT, "ab" * 30, "b" * 60), True)
        self.assertIs(alike(SHORT, "ab" * 30, "b" * 59), False)
        self.assertIs(alike(NEVER, "b", "a" * 59 + "b"), True)
        self.assertIs(alike(NEVER, "", "a" * 60), False)

    def test_random_long_names_lie_within_themselves(self):
        for seed in range(60):
            family = random_family(seed)[0]
            draw = random.Random(seed)
            name, other = random_word(draw, family[0], 60), random_word(draw, family[0], 60)
            self.check(family, name, name, True)
            self.assertIs(alike(family, name, name), True)
            both = within(family, name, other) and within(family, other, name)
            self.assertIs(alike(family, name, other), both)


class TestPartingThing(unittest.TestCase):
    def test_by_hand(self):
        self.assertEqual(parting_thing(SHORT, "ab", "b"), "aa")
        self.assertEqual(parting_thing(SHORT, "ab", ""), "a")
        self.assertIsNone(parting_thing(SHORT, "ab", "bb"))
        self.assertIsNone(parting_thing(SHORT, "", ""))
        self.assertEqual(parting_thing(SAME_LENGTH, "", "a"), "")
        self.assertEqual(parting_thing(NEVER, "b", "a"), "aa")
        self.assertEqual(parting_thing(BEGINS, "", "b"), "")
        self.assertEqual(parting_thing(BEGINS, "b", "ba"), "b")
        self.assertEqual(parting_thing(BEGINS, "b", "a"), "b")

    def test_the_first_of_things_of_one_length(self):
        self.assertEqual(parting_thing(BEGINS, "ab", "aba"), "ab")
        self.assertEqual(parting_thing(BEGINS, "ba", "a"), "ba")

    def test_as_all_small_things_tell(self):
        for oracle in oracles():
            for name in oracle.names:
                for other in oracle.names:
                    thing = parting_thing(oracle.family, name, other)
                    self.assertEqual(thing, oracle.parting_thing(name, other), (oracle.family, name, other))

    def test_none_just_if_it_lies_within(self):
        for seed in range(80):
            family = random_family(seed)[0]
            draw = random.Random(seed)
            for longest in (3, 60):
                name, other = random_word(draw, family[0], longest), random_word(draw, family[0], longest)
                thing = parting_thing(family, name, other)
                self.assertIs(within(family, name, other), thing is None)
                if thing is not None:
                    self.assertIs(belongs(family, name, thing), True)
                    self.assertIs(belongs(family, other, thing), False)

    def test_sixty_letters(self):
        self.assertEqual(parting_thing(SHORT, "ab" * 30, "b" * 59), "a" * 60)
        self.assertIsNone(parting_thing(SHORT, "ab" * 30, "b" * 60))
        self.assertEqual(parting_thing(NEVER, "a" * 59 + "b", "a" * 60), "a" * 61)
        self.assertEqual(parting_thing(BEGINS, "ab" * 30, "ab" * 29 + "aa"), "ab" * 30)


class TestThingsOfAName(unittest.TestCase):
    def test_things_up_to_by_hand(self):
        self.assertEqual(things_up_to(SHORT, "ab", 8), ("", "a", "aa"))
        self.assertEqual(things_up_to(SHORT, "ab", 1), ("", "a"))
        self.assertEqual(things_up_to(SHORT, "ab", 0), ("",))
        self.assertEqual(things_up_to(SAME_LENGTH, "ab", 1), ())
        self.assertEqual(things_up_to(BEGINS, "b", 2), ("b", "ba", "bb"))
        self.assertEqual(things_up_to(NEVER, "b" * 60, 2), ("", "a", "aa"))
        self.assertEqual(things_up_to(BEGINS, "ab" * 30, 8), ())

    def test_things_up_to_of_all_and_nothing(self):
        for alphabets in COLUMNS:
            all_things = tuple(words_up_to(alphabets[1], 3))
            self.assertEqual(things_up_to(plain_family(alphabets, (0,)), alphabets[0], 3), all_things)
            self.assertEqual(things_up_to(plain_family(alphabets, ()), alphabets[0], 3), ())
        self.assertEqual(len(things_up_to(plain_family(("abc", "abc"), (0,)), "", 8)), 9841)

    def test_things_up_to_as_all_small_things_tell(self):
        for oracle in oracles():
            for name in oracle.names:
                for n in (0, 1, 3):
                    expected = tuple(thing for thing in oracle.things_of(name) if len(thing) <= n)
                    answer = things_up_to(oracle.family, name, n)
                    self.assertIs(type(answer), tuple)
                    self.assertEqual(answer, expected, (oracle.family, name, n))

    def test_count_by_hand(self):
        for many in range(8):
            self.assertEqual(count_of(SHORT, "b" * many), many + 1)
            self.assertEqual(count_of(NEVER, "a" * many), many + 1)
            self.assertEqual(count_of(SAME_LENGTH, "b" * many), 1)
            self.assertIsNone(count_of(NEVER, "a" * many + "b"))
            self.assertIsNone(count_of(BEGINS, "b" * many))
        self.assertEqual(count_of(SHORT, "ab" * 30), 61)
        for alphabets in COLUMNS:
            self.assertIsNone(count_of(plain_family(alphabets, (0,)), ""))
            none = count_of(plain_family(alphabets, ()), alphabets[0])
            self.assertEqual(none, 0)
            self.assertIs(type(none), int)

    def test_a_great_count(self):
        # All things with at most as many letters as the name: three to the power of each length.
        at_most = family_of(("z", "abc"), 0, (0,), [
            {column: int(column[0] == "") for column in COLUMNS["z", "abc"]},
            {column: 1 for column in COLUMNS["z", "abc"]},
        ])
        self.assertEqual(count_of(at_most, "z" * 60), (3 ** 61 - 1) // 2)
        self.assertEqual(thing_at(at_most, "z" * 60, 1000), word_at("abc", 1000))

    def test_count_as_all_small_things_tell(self):
        for oracle in oracles():
            states = len(oracle.family[4])
            for name in oracle.names:
                own = oracle.things_of(name)
                # A long thing leads twice through one state behind the name, and so to endlessly many.
                endless = any(len(thing) >= len(name) + states for thing in own)
                count = None if endless else len(own)
                self.assertEqual(count_of(oracle.family, name), count, (oracle.family, name))

    def test_thing_at_by_hand(self):
        self.assertEqual([thing_at(SHORT, "ab", n) for n in range(-2, 5)], [None, None, "", "a", "aa", None, None])
        self.assertEqual([thing_at(BEGINS, "b", n) for n in range(4)], ["b", "ba", "bb", "baa"])
        self.assertEqual(thing_at(NEVER, "b", 1000), "a" * 1000)
        self.assertEqual(thing_at(SHORT, "ab" * 30, 60), "a" * 60)
        self.assertIsNone(thing_at(SHORT, "ab" * 30, 61))
        self.assertIsNone(thing_at(SHORT, "ab" * 30, 1000))
        self.assertIsNone(thing_at(NEVER, "b", -1))
        self.assertIsNone(thing_at(NEVER, "b", -1000))
        self.assertEqual(thing_at(BEGINS, "ab" * 30, 0), "ab" * 30)
        self.assertEqual(thing_at(BEGINS, "ab" * 30, 2), "ab" * 30 + "b")

    def test_thing_at_of_all_and_nothing(self):
        for alphabets in COLUMNS:
            for n in (-1, 0, 1, 7, 1000):
                self.assertEqual(thing_at(plain_family(alphabets, (0,)), "", n), word_at(alphabets[1], n))
                self.assertIsNone(thing_at(plain_family(alphabets, ()), alphabets[0], n))

    def test_no_marks_and_all_marks(self):
        for seed in range(40):
            family = random_family(seed)[0]
            draw = random.Random(seed)
            name, other = random_word(draw, family[0], 60), random_word(draw, family[0], 5)
            for marks in ((), tuple(range(len(family[4])))):
                marked = family[:3] + (marks,) + family[4:]
                self.assertEqual(count_of(marked, name), None if marks else 0)
                self.assertEqual(things_up_to(marked, name, 2), tuple(words_of(family[1], 2)) if marks else ())
                for n in (-1, 0, 5, 1000):
                    self.assertEqual(thing_at(marked, name, n), word_at(family[1], n) if marks else None)
                self.assertEqual(least_new_thing(marked, name, [""]), family[1][0] if marks else None)
                self.assertIs(within(marked, name, other), True)
                self.assertIs(alike(marked, name, other), True)
                self.assertIsNone(parting_thing(marked, name, other))
                self.assertEqual(least_alike(marked, name), "")

    def test_rare_things(self):
        # To each name belong the things with a multiple of five letters.
        rows = [{column: (state + 1) % 5 if column[1] else state for column in COLUMNS["a", "b"]} for state in range(5)]
        family = family_of(("a", "b"), 0, (0,), rows)
        self.assertEqual(thing_at(family, "aaa", 1000), "b" * 5000)
        self.assertEqual(least_new_thing(family, "aa", ["", "b" * 10]), "b" * 5)

    def test_thing_at_and_new_thing_as_all_small_things_tell(self):
        for oracle in oracles():
            draw = random.Random(repr(oracle.family))
            for name in oracle.names:
                own = oracle.things_of(name)
                endless = count_of(oracle.family, name) is None
                for n in range(-1, 8):
                    if not endless or n < len(own):
                        expected = own[n] if 0 <= n < len(own) else None
                        self.assertEqual(thing_at(oracle.family, name, n), expected, (oracle.family, name, n))
                told = [draw.choice(oracle.things) for _ in range(5)] + own[:draw.randint(0, 3)]
                draw.shuffle(told)
                new = [thing for thing in own if thing not in told]
                if new or not endless:
                    answer = least_new_thing(oracle.family, name, told)
                    self.assertEqual(answer, new[0] if new else None, (oracle.family, name, told))

    def test_new_thing_by_hand(self):
        self.assertEqual(least_new_thing(SHORT, "ab", []), "")
        self.assertEqual(least_new_thing(SHORT, "ab", ["", "", "aa", ""]), "a")
        self.assertEqual(least_new_thing(SHORT, "ab", ["a", "aaaaa", "", "aaa"]), "aa")
        self.assertIsNone(least_new_thing(SHORT, "ab", ["aa", "a", "", "aa"]))
        self.assertIsNone(least_new_thing(plain_family(("ab", "a"), ()), "ab", []))
        self.assertIsNone(least_new_thing(plain_family(("ab", "a"), ()), "ab", ["a", ""]))
        self.assertEqual(least_new_thing(NEVER, "b", ["a" * many for many in range(200)]), "a" * 200)
        self.assertEqual(least_new_thing(NEVER, "b", ["a"] * 200), "")
        self.assertEqual(least_new_thing(BEGINS, "ab" * 30, ["ab" * 30, "", "b"]), "ab" * 30 + "a")

    def test_the_list_stays_as_it_is(self):
        told = ["a", "", "a"]
        self.assertEqual(least_new_thing(SHORT, "ab", told), "aa")
        self.assertEqual(told, ["a", "", "a"])
        told.append("aa")
        self.assertIsNone(least_new_thing(SHORT, "ab", told))
        told.clear()
        self.assertEqual(least_new_thing(SHORT, "ab", told), "")


class TestLeastAlike(unittest.TestCase):
    def test_by_hand(self):
        for name in words_of("ab", 5):
            self.assertEqual(least_alike(SHORT, name), "a" * len(name))
            self.assertEqual(least_alike(NEVER, name), "b" if "b" in name else "a" * len(name))
            self.assertEqual(least_alike(BEGINS, name), name)
            self.assertEqual(least_alike(plain_family(("ab", "a"), ()), name), "")
            self.assertEqual(least_alike(plain_family(("ab", "a"), (0,)), name), "")

    def test_as_all_small_things_tell(self):
        for oracle in oracles():
            for name in oracle.names:
                expected = next(other for other in oracle.names if oracle.sets[other] == oracle.sets[name])
                self.assertEqual(least_alike(oracle.family, name), expected, (oracle.family, name))

    def test_sixty_letters(self):
        self.assertEqual(least_alike(SHORT, "ab" * 30), "a" * 60)
        self.assertEqual(least_alike(NEVER, "a" * 59 + "b"), "b")
        self.assertEqual(least_alike(NEVER, "a" * 60), "a" * 60)
        self.assertEqual(least_alike(BEGINS, "ba" * 30), "ba" * 30)

    def test_random_long_names(self):
        for seed in range(40):
            family = random_family(seed)[0]
            name = random_word(random.Random(seed), family[0], 60)
            least = least_alike(family, name)
            self.assertIs(alike(family, name, least), True)
            self.assertEqual(least_alike(family, least), least)
            self.assertLessEqual((len(least), least), (len(name), name))


class TestNothingIsKept(unittest.TestCase):
    def test_families_by_turns(self):
        for _ in range(3):
            self.assertEqual(count_of(SHORT, "ba"), 3)
            self.assertIsNone(count_of(NEVER, "ba"))
            self.assertEqual(least_alike(SHORT, "ba"), "aa")
            self.assertEqual(least_alike(NEVER, "ba"), "b")


if __name__ == "__main__":
    unittest.main()

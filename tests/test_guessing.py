"""Guesses from told things: promises [15], [16] and [17]."""

import random
import unittest

from guessrests.bounds import least_bound, verdict
from guessrests.guessing import first_guess, guess, guess_of_both
from guessrests.names import alike, count_of, least_alike, parting_thing, things_up_to
from guessrests.sure import first_verdict, is_sure, least_sure
from oracles import Oracle
from samples import COLUMNS, NEVER, SHORT, family_with, random_word, words_of
from test_names import BEGINS, SAME_LENGTH, plain_family

# Alphabets, states, letters of names that are tried as guesses, of all names, and of things, families.
SMALL = (
    (("ab", "a"), 1, 2, 3, 6, 3),
    (("ab", "a"), 2, 4, 6, 12, 20),
    (("ab", "a"), 3, 4, 6, 16, 25),
    (("a", "b"), 3, 6, 12, 22, 20),
    (("ab", "ab"), 2, 3, 5, 7, 12),
    (("ab", "ab"), 3, 3, 5, 7, 8),
    (("z", "abc"), 2, 3, 6, 7, 10),
    (("abc", "b"), 2, 3, 4, 12, 8),
    (("abc", "abc"), 3, 2, 3, 5, 4),
)

# The thing without letters belongs to each name, and so do all things with more letters than the name.
CLOSER = ("a", "b", 0, (0, 2, 3), ((1, 3, 2), (1, 4, 2), (2, 2, 2), (3, 3, 3), (4, 4, 4)))


def oracles():
    """An oracle for each of many small families."""
    for alphabets, states, longest, far, letters, many in SMALL:
        for seed in range(many):
            yield Oracle(family_with(alphabets, states, 100 + seed), longest, far, letters)


def told_lists(draw, oracle, many):
    """Lists of things: of the first things of a name, of some of them, and of any small ones."""
    for turn in range(many):
        things = oracle.things_of(draw.choice(oracle.far_names[:15]))
        if turn % 4 == 0:
            longest = draw.randint(0, 3)
            yield [thing for thing in things if len(thing) <= longest]
        elif turn % 4 == 1:
            yield things[:draw.randint(0, 5)]
        elif turn % 4 == 2:
            yield draw.sample(things, min(len(things), draw.randint(0, 3)))
        else:
            yield [draw.choice(oracle.things[:8]) for _ in range(draw.randint(0, 3))]


def can_be_guessed(oracle, name, length, told):
    """Tell if the told things belong to the name, and all of its things up to the length are among them."""
    things = oracle.things_of(name)
    return set(told) <= set(things) and all(thing in told for thing in things if len(thing) <= length)


class TestExamples(unittest.TestCase):
    def test_of_the_document(self):
        short = ("ab", "a", 0, (0,), ((0, 0, 0, 0, 1), (1, 1, 1, 1, 1)))
        never = ("ab", "a", 0, (0, 2), ((0, 0, 2, 2, 1), (1, 1, 2, 2, 1), (2, 2, 2, 2, 2)))
        answers = (guess(short, ["", "a"]), guess(short, ["a"]), guess_of_both(never, ["aa"], []))
        self.assertEqual(answers, ("a", None, "b"))


class TestByHand(unittest.TestCase):
    def test_short(self):
        for many in (0, 1, 2, 7, 60):
            told = ["a" * length for length in range(many + 1)]
            self.assertEqual(guess(SHORT, told), "a" * many)
            self.assertIsNone(first_guess(SHORT, told))
            if many > 1:
                self.assertIsNone(guess(SHORT, told[:1] + told[2:]))
        self.assertIsNone(guess(SHORT, []))
        self.assertIsNone(guess(SHORT, ["aa", "a"]))

    def test_never(self):
        self.assertEqual(guess(NEVER, ["", "a", "aa"]), "aa")
        self.assertIsNone(guess(NEVER, ["aa"]))
        self.assertEqual(guess_of_both(NEVER, [], []), "")
        self.assertEqual(guess_of_both(NEVER, ["aaaa"], []), "b")
        self.assertEqual(guess_of_both(NEVER, ["aa"], ["aaa"]), "aa")
        self.assertIsNone(guess_of_both(NEVER, ["aa"], ["a"]))
        self.assertEqual(guess_of_both(NEVER, [""], ["a" * 60]), "")

    def test_same_length(self):
        # The name a has no trap, even at the length 0, but no length below 1 is sure for it.
        self.assertEqual((guess(SAME_LENGTH, []), first_guess(SAME_LENGTH, [])), ("a", None))
        for told, answer in ((["aa"], "aa"), ([""], ""), (["", "a"], None), (["a" * 60], "a" * 60)):
            self.assertEqual(guess(SAME_LENGTH, told), answer)
            self.assertEqual(first_guess(SAME_LENGTH, told), answer)
        self.assertEqual(guess_of_both(SAME_LENGTH, [], ["", "a", "aaa"]), "aa")

    def test_begins(self):
        for told, answer in (
            (["ab", "aba"], "ab"), (["aba", "abb"], None), (["a", "ab"], "a"), ([], None), (["b", ""], ""),
            (["ab" * 30], "ab" * 30), (["ab" * 29, "ab" * 30], "ab" * 29), (["a", "b"], None),
        ):
            self.assertEqual(guess(BEGINS, told), answer)
            self.assertEqual(first_guess(BEGINS, told), "" if answer == "" else None)
        self.assertEqual(guess_of_both(BEGINS, ["aba", "abb"], ["b"]), "a")
        self.assertEqual(guess_of_both(BEGINS, ["aba", "abb"], ["b", "aa"]), "ab")
        self.assertIsNone(guess_of_both(BEGINS, ["aba", "abb"], ["b", "abab"]))

    def test_one_state(self):
        for alphabets in COLUMNS:
            for marks in ((), (0,)):
                family = plain_family(alphabets, marks)
                letter = alphabets[1][0]
                for make in (guess, first_guess):
                    self.assertEqual(make(family, []), None if marks else "")
                    self.assertEqual(make(family, [""]), "" if marks else None)
                    self.assertEqual(make(family, [letter]), None)
                    self.assertEqual(make(family, [letter * 60, ""]), "" if marks else None)
                self.assertEqual(guess_of_both(family, [letter], []), "" if marks else None)
                self.assertEqual(guess_of_both(family, [], [letter]), None if marks else "")
                self.assertEqual(guess_of_both(family, [], []), "")

    def test_a_thing_that_shall_and_shall_not_belong(self):
        for family in (SHORT, NEVER, BEGINS, SAME_LENGTH):
            self.assertIsNone(guess_of_both(family, ["", "a"], ["a"]))
            self.assertIsNone(guess_of_both(family, [""], [""]))

    def test_a_name_with_finitely_many_things(self):
        told = [""]
        for name in ("", "a", "ba"):
            told = ["a" * length for length in range(len(name) + 1)]
            self.assertEqual(count_of(SHORT, name), len(told))
            self.assertEqual(guess(SHORT, told), "a" * len(name))

    def test_endlessly_many_sets_that_come_closer(self):
        self.assertEqual(things_up_to(CLOSER, "aa", 4), ("", "bbb", "bbbb"))
        self.assertEqual(verdict(CLOSER), ("rests",))
        # Each name to which the thing without letters belongs has a trap: a name with more letters.
        for told, answer in (
            ([""], None), ([], None), (["b"], None), (["", "b"], ""), (["", "bb"], "a"), (["", "bbbb", "bbb"], "aa"),
            (["", "b" * 60], "a" * 59), (["bb", "", "b" * 60], "a"),
        ):
            self.assertEqual(guess(CLOSER, told), answer)
            self.assertEqual(first_guess(CLOSER, told), "" if answer == "" else None)
        # A thing belongs to a name if it has more letters.
        longer = ("a", "b", 0, (1,), ((0, 2, 1), (1, 1, 1), (2, 2, 2)))
        for told, answer in (([], None), (["b"], ""), (["bb"], "a"), (["bbb", "b", "bb"], ""), ([""], None)):
            self.assertEqual(guess(longer, told), answer)
            self.assertEqual(first_guess(longer, told), "" if answer == "" else None)
        self.assertEqual(guess_of_both(longer, ["bbb"], ["bb"]), "aa")

    def test_sixty_letters_and_many_things(self):
        draw = random.Random(3)
        things = [random_word(draw, "ab", 60) for _ in range(199)]
        self.assertEqual(guess(BEGINS, things + [""]), "")
        self.assertEqual(guess_of_both(BEGINS, ["ab" + thing for thing in things] + ["ab"], ["aa" * 30, "b", ""]), "ab")
        told = ["a" * draw.randint(0, 60) for _ in range(200)]
        whole = len(set(told)) == 61
        self.assertEqual(guess(SHORT, told), "a" * 60 if whole else None)


class TestAsSmallNamesTell(unittest.TestCase):
    def check(self, oracle, make, limits, least, told):
        answer = make(oracle.family, told)
        small = [
            name for name in oracle.names
            if limits[name] is not None and can_be_guessed(oracle, name, limits[name], told)
        ]
        self.last.append(answer)
        if small or answer in oracle.names:
            self.assertEqual(answer, small[0] if small else None, (oracle.family, told))
        elif answer is not None:
            length = least(oracle.family, answer)
            self.assertIsNotNone(length)
            self.assertTrue(all(oracle.belongs(answer, thing) for thing in told))
            self.assertLessEqual(set(things_up_to(oracle.family, answer, min(length, 8))), set(told))

    def check_all(self, make, least):
        self.last = []
        for number, oracle in enumerate(oracles()):
            draw = random.Random(number)
            limits = {name: least(oracle.family, name) for name in oracle.names}
            if max((limit or 0) for limit in limits.values()) <= len(oracle.things[-1]):
                for told in told_lists(draw, oracle, 8):
                    self.check(oracle, make, limits, least, told)
        found = len([answer for answer in self.last if answer is not None])
        self.assertGreater(found, len(self.last) // 10)
        self.assertLess(found, len(self.last) * 9 // 10)

    def test_guess(self):
        self.check_all(guess, least_bound)

    def test_first_guess(self):
        self.check_all(first_guess, least_sure)

    def test_guess_of_both(self):
        found = [0, 0]
        for number, oracle in enumerate(oracles()):
            draw = random.Random(number)
            lists = list(told_lists(draw, oracle, 8))
            for yes, no in zip(lists, lists[1:] + [[]]):
                no = [thing for thing in no if thing not in yes]
                answer = guess_of_both(oracle.family, yes, no)
                found[answer is None] += 1
                small = [name for name in oracle.far_names if self.fits(oracle, name, yes, no)]
                if small or answer in oracle.sets:
                    self.assertEqual(answer, small[0] if small else None, (oracle.family, yes, no))
                elif answer is not None:
                    self.assertTrue(self.fits(oracle, answer, yes, no))
        self.assertGreater(min(found), 50)

    def fits(self, oracle, name, yes, no):
        right = all(oracle.belongs(name, thing) for thing in yes)
        return right and not any(oracle.belongs(name, thing) for thing in no)

    def test_longer_things_than_names(self):
        for seed in range(40):
            family = family_with(("ab", "ab"), 3, seed)
            oracle = Oracle(family, 4, 4, 4)
            draw = random.Random(seed)
            name = draw.choice(oracle.names)
            things = [random_word(draw, "ab", 12) for _ in range(6)]
            yes = [thing for thing in things if oracle.belongs(name, thing)]
            no = [thing for thing in things if not oracle.belongs(name, thing)]
            small = [other for other in oracle.names if self.fits(oracle, other, yes, no)]
            self.assertEqual(guess_of_both(family, yes, no), small[0])


class TestTellings(unittest.TestCase):
    def small_names(self, oracle):
        """The names whose things with at most 8 letters part them from all earlier names that lie not above them."""
        for name in oracle.names:
            parting = [parting_thing(oracle.family, name, other) for other in oracle.names]
            if all(thing is None or len(thing) <= 8 for thing in parting):
                yield name

    def test_guesses_rest_on_the_least_alike_name(self):
        many = 0
        for oracle in list(oracles())[::3]:
            for name in self.small_names(oracle):
                bound = least_bound(oracle.family, name)
                if bound is not None and bound <= 8:
                    many += 1
                    told = list(things_up_to(oracle.family, name, 8))[:200]
                    if len(told) < 200:
                        self.assertEqual(guess(oracle.family, told), least_alike(oracle.family, name))
        self.assertGreater(many, 100)

    def test_first_guesses_of_sure_families(self):
        many = 0
        for oracle in oracles():
            if first_verdict(oracle.family) != ("sure",):
                continue
            draw = random.Random(many)
            for name in oracle.names[:4]:
                many += 1
                things = oracle.things_of(name)[:12]
                draw.shuffle(things)
                begun = False
                for at in range(len(things) + 1):
                    answer = first_guess(oracle.family, things[:at])
                    self.assertFalse(begun and answer is None, (oracle.family, things[:at]))
                    if answer is not None:
                        begun = True
                        self.assertIs(alike(oracle.family, answer, name), True)
                        self.assertIs(is_sure(oracle.family, answer, least_sure(oracle.family, answer)), True)
        self.assertGreater(many, 20)

    def test_both_sets_told_in_the_end(self):
        for oracle in list(oracles())[::4]:
            for name in oracle.names[:6]:
                small = words_of(oracle.family[1], 5)
                yes = [thing for thing in small if oracle.belongs(name, thing)]
                no = [thing for thing in small if not oracle.belongs(name, thing)]
                answer = guess_of_both(oracle.family, yes, no)
                fitting = [
                    other for other in oracle.names
                    if all(oracle.belongs(other, thing) == oracle.belongs(name, thing) for thing in small)
                ]
                self.assertEqual(answer, fitting[0])


class TestLists(unittest.TestCase):
    def test_order_and_doubled_things(self):
        for number, oracle in enumerate(list(oracles())[::3]):
            draw = random.Random(number)
            for told in told_lists(draw, oracle, 4):
                again = told + [draw.choice(told) for _ in range(3) if told]
                draw.shuffle(again)
                self.assertEqual(guess(oracle.family, again), guess(oracle.family, told))
                self.assertEqual(first_guess(oracle.family, again), first_guess(oracle.family, told))
                other = oracle.things[:3]
                self.assertEqual(
                    guess_of_both(oracle.family, again, other[::-1] + other), guess_of_both(oracle.family, told, other),
                )

    def test_lists_are_not_changed(self):
        told, no = ["a", "", "a"], ["aa", "aaa", "aa"]
        for family in (SHORT, NEVER, SAME_LENGTH):
            guess(family, told)
            first_guess(family, told)
            guess_of_both(family, told, no)
            self.assertEqual((told, no), (["a", "", "a"], ["aa", "aaa", "aa"]))


if __name__ == "__main__":
    unittest.main()

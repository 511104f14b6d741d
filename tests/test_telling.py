"""The teller: promise [18]."""

import random
import unittest

from guessrests.bounds import least_bound, trap_for, verdict
from guessrests.errors import GuessError, HasBound
from guessrests.families import belongs
from guessrests.guessing import guess
from guessrests.names import alike, least_new_thing, thing_at, within
from guessrests.telling import Teller
from samples import NEVER, SHORT, family_with, random_word, words_of
from test_names import BEGINS, SAME_LENGTH

# Alphabets, states, families.
SMALL = ((("ab", "a"), 2, 60), (("ab", "a"), 3, 60), (("a", "b"), 3, 60), (("ab", "ab"), 2, 40), (("z", "abc"), 2, 40))


def unbound_names():
    """Families with a name that has no bound."""
    for alphabets, states, many in SMALL:
        for seed in range(many):
            family = family_with(alphabets, states, seed)
            answer = verdict(family)
            if answer[0] == "never":
                yield family, answer[1]
    yield NEVER, "b"
    yield NEVER, "ab"
    yield NEVER, "aaabab"


def next_target(family, name, target, told, guessed):
    """The target behind a round, as the document's words have it."""
    right = guessed is not None and alike(family, name, guessed)
    if target == name and right:
        things = [thing for thing in told if thing is not None]
        return trap_for(family, name, max(len(thing) for thing in things + [least_new_thing(family, name, things)]))
    if target != name and not right:
        return name
    return target


class TestExamples(unittest.TestCase):
    def test_of_the_document(self):
        never = ("ab", "a", 0, (0, 2), ((0, 0, 2, 2, 1), (1, 1, 2, 2, 1), (2, 2, 2, 2, 2)))
        teller = Teller(never, "b")
        first = teller.tell(None)
        second = teller.tell("b")
        third = teller.tell("b")
        fourth = teller.tell(None)
        self.assertEqual((first, second, third, fourth, teller.target), ("", "a", None, "aa", "b"))
        self.assertEqual(teller.told, ("", "a", None, "aa"))


class TestRounds(unittest.TestCase):
    def test_before_the_first_round(self):
        teller = Teller(NEVER, "ab")
        self.assertEqual((teller.target, teller.told), ("ab", ()))

    def test_the_first_guess_does_not_matter(self):
        for guessed in (None, "b", "ab", "a", ""):
            teller = Teller(NEVER, "ab")
            self.assertEqual(teller.tell(guessed), "")
            self.assertEqual((teller.target, teller.told), ("ab", ("",)))

    def test_the_length_counts_the_next_thing_of_the_name(self):
        teller = Teller(NEVER, "b")
        told = [teller.tell(guessed) for guessed in (None, None, "", "aa", "ab")]
        self.assertEqual(told, ["", "a", "aa", "aaa", "aaaa"])
        self.assertEqual(teller.target, "aaaa")
        self.assertEqual([teller.tell("b") for _ in range(3)], [None] * 3)
        self.assertEqual(teller.target, "aaaa")
        self.assertEqual(teller.tell("aaaa"), "aaaaa")
        self.assertEqual(teller.target, "b")
        self.assertEqual(teller.tell("bab"), "aaaaaa")
        self.assertEqual(teller.target, "aaaaaa")

    def test_none_is_not_alike(self):
        teller = Teller(NEVER, "b")
        for guessed in (None, "b", None):
            teller.tell(guessed)
        self.assertEqual(teller.target, "b")

    def test_a_learner_that_never_guesses(self):
        for family, name in unbound_names():
            teller = Teller(family, name)
            for n in range(6):
                self.assertEqual(teller.tell(None), thing_at(family, name, n))
            self.assertEqual(teller.target, name)

    def play(self, family, name, learner, rounds):
        """Check the rounds with a learner, and return how often the target changed."""
        teller = Teller(family, name)
        target, told, changes = name, [], 0
        for turn in range(rounds):
            guessed = learner(told)
            if turn:
                behind = next_target(family, name, target, told, guessed)
                changes += behind != target
                target = behind
            things = [thing for thing in told if thing is not None]
            thing = least_new_thing(family, target, things)
            self.assertEqual(teller.tell(guessed), thing)
            told.append(thing)
            self.assertEqual((teller.target, teller.told), (target, tuple(told)))
            self.assertIs(within(family, target, name), True)
            for thing in told:
                if thing is not None:
                    self.assertTrue(belongs(family, name, thing) and belongs(family, target, thing))
        return changes

    def test_rules_with_learners_that_guess_at_random(self):
        changes = 0
        for number, (family, name) in enumerate(unbound_names()):
            draw = random.Random(number)
            names = words_of(family[0], 3) + [None, name, name]
            changes += self.play(family, name, lambda told: draw.choice(names), 12)
        self.assertGreater(changes, 100)

    def test_rules_with_a_learner_that_always_guesses_the_name(self):
        for family, name in unbound_names():
            self.play(family, name, lambda told: name, 8)

    def test_rules_with_the_learner_of_the_program(self):
        for family, name in list(unbound_names())[::8] + [(NEVER, "b")]:
            self.play(family, name, lambda told: guess(family, [thing for thing in told if thing is not None]), 8)

    def test_a_learner_that_follows_the_target_is_led_on_for_ever(self):
        teller = Teller(NEVER, "b")
        changes = 0
        for _ in range(59):
            before = teller.target
            teller.tell(before)
            changes += teller.target != before
        self.assertEqual(changes, 58)
        things = [thing for thing in teller.told if thing is not None]
        self.assertEqual(things, ["a" * length for length in range(len(things))])

    def test_long_names(self):
        draw = random.Random(8)
        name = random_word(draw, "ab", 57) + "bab"
        self.play(NEVER, name, lambda told: draw.choice(["b", name, None, "aaa"]), 25)


class TestErrors(unittest.TestCase):
    def test_names_with_a_bound(self):
        for family in (SHORT, BEGINS, SAME_LENGTH, NEVER):
            for name in ("", "a", "aaa", "a" * 60):
                self.assertIsNotNone(least_bound(family, name))
                with self.assertRaises(HasBound) as caught:
                    Teller(family, name)
                self.assertIsInstance(caught.exception, GuessError)
        for name in ("b", "ab" * 30):
            with self.assertRaises(HasBound):
                Teller(SHORT, name)
            Teller(NEVER, name)

    def test_just_the_names_with_a_bound(self):
        kinds = [0, 0]
        for alphabets, states, many in SMALL:
            for seed in range(0, many, 4):
                family = family_with(alphabets, states, seed)
                for name in words_of(alphabets[0], 2):
                    bound = least_bound(family, name)
                    kinds[bound is None] += 1
                    if bound is None:
                        Teller(family, name)
                    else:
                        with self.assertRaises(HasBound):
                            Teller(family, name)
        self.assertGreater(min(kinds), 20)


class TestApart(unittest.TestCase):
    def test_two_tellers(self):
        one, other = Teller(NEVER, "b"), Teller(NEVER, "b")
        one.tell(None)
        one.tell("b")
        self.assertEqual((other.target, other.told), ("b", ()))
        self.assertEqual([other.tell(None) for _ in range(3)], ["", "a", "aa"])
        self.assertEqual((one.target, one.told), ("a", ("", "a")))

    def test_told_is_a_tuple_that_stays(self):
        teller = Teller(NEVER, "b")
        teller.tell(None)
        told = teller.told
        teller.tell(None)
        self.assertEqual((told, type(teller.told)), (("",), tuple))


if __name__ == "__main__":
    unittest.main()

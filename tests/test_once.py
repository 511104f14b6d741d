"""The once-teller: promise [24]."""

import random
import unittest

from guessrests.errors import GuessError, HasBound
from guessrests.families import belongs
from guessrests.guessing import first_guess
from guessrests.names import alike, least_new_thing, thing_at
from guessrests.once import OnceTeller
from guessrests.sure import first_verdict, least_sure, unlike_holder
from samples import NEVER, SHORT, family_with, words_of
from test_names import BEGINS, SAME_LENGTH
from test_telling import SMALL


def unsure_names():
    """Families with a name that has no sure length."""
    for alphabets, states, many in SMALL:
        for seed in range(0, many, 2):
            family = family_with(alphabets, states, seed)
            answer = first_verdict(family)
            if answer[0] == "unsure":
                yield family, answer[1]
    yield SHORT, "a"
    yield SHORT, "bab"
    yield NEVER, "b"
    yield NEVER, ""
    yield BEGINS, "ab"


class TestRounds(unittest.TestCase):
    def test_by_hand(self):
        teller = OnceTeller(SHORT, "a")
        self.assertEqual((teller.target, teller.told), ("a", ()))
        # The first guess does not matter, and a wrong one changes nothing.
        self.assertEqual([teller.tell(guessed) for guessed in ("b", "", None)], ["", "a", None])
        self.assertEqual(teller.target, "a")
        self.assertEqual(teller.tell("b"), "aa")
        self.assertEqual(teller.target, "aa")
        self.assertEqual([teller.tell(guessed) for guessed in ("aa", "b", None)], [None] * 3)
        self.assertEqual((teller.target, teller.told), ("aa", ("", "a", None, "aa", None, None, None)))

    def test_only_what_was_told_counts(self):
        teller = OnceTeller(NEVER, "b")
        self.assertEqual([teller.tell("b"), teller.tell("a"), teller.tell("ab")], ["", "a", None])
        self.assertEqual(teller.target, "a")
        self.assertEqual([teller.tell(guessed) for guessed in ("a", "b", None, "")], [None] * 4)
        self.assertEqual(teller.target, "a")

    def test_a_name_with_no_things(self):
        # Only the names with a b at the first place have things, which are all.
        family = ("ab", "a", 0, (2,), ((1, 1, 2, 2, 1), (1, 1, 1, 1, 1), (2, 2, 2, 2, 2)))
        teller = OnceTeller(family, "ab")
        self.assertEqual([teller.tell(None), teller.tell("b"), teller.tell("b")], [None] * 3)
        self.assertEqual(teller.target, "ab")
        self.assertEqual([teller.tell("a"), teller.tell(None), teller.tell("a")], ["", "a", "aa"])
        self.assertEqual((teller.target, teller.told), ("b", (None, None, None, "", "a", "aa")))

    def test_a_learner_that_never_guesses(self):
        for family, name in unsure_names():
            teller = OnceTeller(family, name)
            for n in range(6):
                self.assertEqual(teller.tell(None), thing_at(family, name, n))
            self.assertEqual(teller.target, name)

    def play(self, family, name, learner, rounds):
        """Check the rounds with a learner, and return the last target."""
        teller = OnceTeller(family, name)
        target, told, first_wrong = name, [], None
        for turn in range(rounds):
            guessed = learner(told)
            if turn and target == name and guessed is not None and alike(family, name, guessed):
                things = [thing for thing in told if thing is not None]
                target = unlike_holder(family, name, max((len(thing) for thing in things), default=0))
            if turn and guessed is not None and first_wrong is None:
                first_wrong = guessed
                self.assertIs(alike(family, target, guessed), False)
            thing = least_new_thing(family, target, [thing for thing in told if thing is not None])
            self.assertEqual(teller.tell(guessed), thing)
            told.append(thing)
            self.assertEqual((teller.target, teller.told), (target, tuple(told)))
            for thing in told:
                if thing is not None:
                    self.assertTrue(belongs(family, target, thing))
        return teller.target

    def test_rules_with_learners_that_guess_at_random(self):
        turned = 0
        for number, (family, name) in enumerate(unsure_names()):
            draw = random.Random(number)
            names = words_of(family[0], 2) + [None, None, name]
            turned += self.play(family, name, lambda told: draw.choice(names), 12) != name
        self.assertGreater(turned, 50)

    def test_rules_with_the_learner_of_the_program(self):
        for family, name in list(unsure_names())[::6]:
            self.play(family, name, lambda told: first_guess(family, [thing for thing in told if thing is not None]), 8)

    def test_rules_with_late_guesses(self):
        for family, name in unsure_names():
            for late in (1, 3, 5):
                target = self.play(family, name, lambda told: name if len(told) >= late else None, 9)
                self.assertIs(alike(family, target, name), False)


class TestErrors(unittest.TestCase):
    def test_names_with_a_sure_length(self):
        for family, name in ((SAME_LENGTH, ""), (SAME_LENGTH, "ab" * 30), (BEGINS, "")):
            with self.assertRaises(HasBound) as caught:
                OnceTeller(family, name)
            self.assertIsInstance(caught.exception, GuessError)

    def test_just_the_names_with_a_sure_length(self):
        kinds = [0, 0]
        for alphabets, states, many in SMALL:
            for seed in range(0, many, 4):
                family = family_with(alphabets, states, seed)
                for name in words_of(alphabets[0], 2):
                    length = least_sure(family, name)
                    kinds[length is None] += 1
                    if length is None:
                        OnceTeller(family, name)
                    else:
                        with self.assertRaises(HasBound):
                            OnceTeller(family, name)
        self.assertGreater(min(kinds), 20)


class TestApart(unittest.TestCase):
    def test_two_tellers(self):
        one, other = OnceTeller(NEVER, "b"), OnceTeller(NEVER, "b")
        one.tell(None)
        one.tell("b")
        self.assertEqual((other.target, other.told), ("b", ()))
        self.assertEqual([other.tell(None) for _ in range(3)], ["", "a", "aa"])
        self.assertNotEqual(one.target, "b")

    def test_told_is_a_tuple_that_stays(self):
        teller = OnceTeller(NEVER, "b")
        teller.tell(None)
        told = teller.told
        teller.tell(None)
        self.assertEqual((told, type(teller.told)), (("",), tuple))


if __name__ == "__main__":
    unittest.main()

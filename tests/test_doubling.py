"""The double listener: promise [25]."""

import random
import unittest

from guessrests.doubling import DoubleListener
from guessrests.errors import Clash, GuessError, NoFamily, NoWord
from guessrests.guessing import guess_of_both
from samples import NEVER, SHORT, words_of
from test_listening import BROKEN, changes_of, families
from test_names import BEGINS, SAME_LENGTH


class TestDoubleListener(unittest.TestCase):
    def test_new(self):
        for family in (SHORT, NEVER, BEGINS, SAME_LENGTH):
            listener = DoubleListener(family)
            self.assertEqual((listener.guess, listener.changes, listener.heard), ("", 0, ()))

    def test_pairs_by_hand(self):
        listener = DoubleListener(NEVER)
        self.assertEqual(listener.hear("a", 1), "a")
        self.assertEqual(listener.hear("aaa", 1), "b")
        self.assertEqual(listener.hear("aaaa", 0), "aaa")
        self.assertEqual(listener.hear("aaaa", 0), "aaa")
        self.assertIsNone(listener.hear("", 0))
        self.assertEqual(listener.changes, 4)
        self.assertEqual(listener.heard, (("a", 1), ("aaa", 1), ("aaaa", 0), ("aaaa", 0), ("", 0)))

    def test_undo(self):
        listener = DoubleListener(NEVER)
        self.assertIs(listener.undo(), False)
        listener.hear("aa", 1)
        listener.hear("aa", 1)
        listener.hear("aaa", 0)
        states = []
        for _ in range(3):
            states.append((listener.guess, listener.changes, listener.heard))
            self.assertIs(listener.undo(), True)
        pairs = (("aa", 1), ("aa", 1), ("aaa", 0))
        self.assertEqual(states, [("aa", 2, pairs), ("b", 1, pairs[:2]), ("b", 1, pairs[:1])])
        self.assertIs(listener.undo(), False)
        self.assertEqual((listener.guess, listener.changes, listener.heard), ("", 0, ()))
        # What was taken back does not clash.
        self.assertEqual(listener.hear("aa", 0), "")

    def test_random_pairs(self):
        clashes = 0
        for number, family in enumerate(families()):
            draw = random.Random(number)
            listener = DoubleListener(family)
            pairs = []
            things = words_of(family[1], 2)[:6]
            for _ in range(14):
                thing, there = draw.choice(things), draw.randrange(2)
                if draw.randrange(4) == 0:
                    self.assertIs(listener.undo(), bool(pairs))
                    pairs = pairs[:-1]
                elif (thing, 1 - there) in pairs:
                    clashes += 1
                    with self.assertRaises(Clash):
                        listener.hear(thing, there)
                else:
                    pairs = pairs + [(thing, there)]
                    self.assertEqual(listener.hear(thing, there), self.guess_for(family, pairs))
                guesses = [self.guess_for(family, pairs[:at]) for at in range(len(pairs) + 1)]
                state = (listener.guess, listener.changes, listener.heard)
                self.assertEqual(state, (guesses[-1], changes_of(guesses), tuple(pairs)))
        self.assertGreater(clashes, 20)

    def guess_for(self, family, pairs):
        yes = [thing for thing, there in pairs if there == 1]
        return guess_of_both(family, yes, [thing for thing, there in pairs if there == 0])


class TestErrors(unittest.TestCase):
    def test_no_family(self):
        for family in BROKEN:
            with self.assertRaises(NoFamily):
                DoubleListener(family)

    def check_raises(self, error, listener, thing, there):
        state = (listener.guess, listener.changes, listener.heard)
        with self.assertRaises(error) as caught:
            listener.hear(thing, there)
        self.assertIsInstance(caught.exception, GuessError)
        self.assertEqual((listener.guess, listener.changes, listener.heard), state)

    def test_no_word(self):
        listener = DoubleListener(NEVER)
        listener.hear("a", 1)
        for text in ("b", "ab", "A", " ", "a ", "a\n", "-", "\t"):
            for there in (0, 1):
                self.check_raises(NoWord, listener, text, there)

    def test_clash(self):
        listener = DoubleListener(NEVER)
        listener.hear("", 1)
        listener.hear("aa", 0)
        self.check_raises(Clash, listener, "", 0)
        self.check_raises(Clash, listener, "aa", 1)
        self.assertEqual(listener.hear("", 1), "")
        # As long as one of two equal pairs stays, it clashes.
        listener.undo()
        self.check_raises(Clash, listener, "", 0)
        listener.undo()
        self.assertEqual(listener.hear("aa", 1), "b")


class TestApart(unittest.TestCase):
    def test_two_listeners(self):
        one, other = DoubleListener(NEVER), DoubleListener(NEVER)
        one.hear("a", 1)
        self.assertEqual((other.guess, other.changes, other.heard), ("", 0, ()))
        other.hear("a", 0)
        self.assertEqual((one.guess, one.changes, one.heard), ("a", 1, (("a", 1),)))

    def test_heard_is_a_tuple_that_stays(self):
        listener = DoubleListener(SHORT)
        listener.hear("a", 1)
        heard = listener.heard
        listener.undo()
        self.assertEqual((heard, type(heard), listener.heard), ((("a", 1),), tuple, ()))


if __name__ == "__main__":
    unittest.main()

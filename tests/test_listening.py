"""The listener: promise [23]."""

import random
import unittest

from guessrests.errors import GuessError, NoFamily, NoWord
from guessrests.guessing import guess
from guessrests.listening import Listener
from samples import COLUMNS, NEVER, SHORT, family_with, words_of
from test_names import BEGINS, SAME_LENGTH, plain_family

BROKEN = (
    ("ba", "a", 0, (0,), ((0, 0, 0, 0, 0),)),
    ("ab", "", 0, (0,), ((0, 0, 0),)),
    ("ab", "a", 1, (0,), ((0, 0, 0, 0, 0),)),
    ("ab", "a", -1, (0,), ((0, 0, 0, 0, 0),)),
    ("ab", "a", 0, (1,), ((0, 0, 0, 0, 0),)),
    ("ab", "a", 0, (0, 0), ((0, 0, 0, 0, 0),)),
    ("ab", "a", 0, (0,), ((0, 0, 0, 0),)),
    ("ab", "a", 0, (0,), ((0, 0, 0, 0, 10 ** 2000),)),
    ("ab", "a", 0, (), ()),
)


def changes_of(guesses):
    """How often a guess is another one than the guess before it."""
    return sum(before != behind for before, behind in zip(guesses, guesses[1:]))


def families():
    """Families of one to three states."""
    for alphabets in COLUMNS:
        for states in (1, 2, 3):
            for seed in range(2):
                yield family_with(alphabets, states, 300 + seed)


class TestExamples(unittest.TestCase):
    def test_of_the_document(self):
        short = ("ab", "a", 0, (0,), ((0, 0, 0, 0, 1), (1, 1, 1, 1, 1)))
        listener = Listener(short)
        first = listener.hear("a")
        second = listener.hear("")
        self.assertEqual((first, second, listener.changes, listener.heard), (None, "a", 1, ("a", "")))


class TestListener(unittest.TestCase):
    def test_new(self):
        for family in (SHORT, NEVER, BEGINS, SAME_LENGTH):
            listener = Listener(family)
            self.assertEqual((listener.guess, listener.changes, listener.heard), (guess(family, []), 0, ()))
        self.assertEqual(Listener(SAME_LENGTH).guess, "a")
        self.assertEqual(Listener(plain_family(("a", "b"), ())).guess, "")

    def test_steps_by_hand(self):
        listener = Listener(SHORT)
        self.assertEqual([listener.pause(), listener.hear(""), listener.pause(), listener.hear("")], [None, "", "", ""])
        self.assertEqual(listener.changes, 1)
        self.assertEqual([listener.hear("aa"), listener.hear("a"), listener.hear("aa")], [None, "aa", "aa"])
        self.assertEqual(listener.changes, 3)
        self.assertEqual(listener.heard, (None, "", None, "", "aa", "a", "aa"))
        self.assertEqual(listener.guess, "aa")

    def test_hear_all(self):
        listener = Listener(SHORT)
        self.assertIsNone(listener.hear_all([]))
        self.assertEqual((listener.heard, listener.changes), ((), 0))
        self.assertEqual(listener.hear_all(["", None, "aa", "a", None]), "aa")
        self.assertEqual((listener.heard, listener.changes, listener.guess), (("", None, "aa", "a", None), 3, "aa"))
        self.assertEqual(listener.hear_all([]), "aa")
        self.assertEqual(listener.hear_all([None]), "aa")
        self.assertEqual((len(listener.heard), listener.changes), (6, 3))

    def test_undo(self):
        listener = Listener(SHORT)
        self.assertIs(listener.undo(), False)
        listener.hear_all(["", "aa", "a"])
        states = [(listener.guess, listener.changes, listener.heard)]
        for _ in range(3):
            self.assertIs(listener.undo(), True)
            states.append((listener.guess, listener.changes, listener.heard))
        self.assertEqual(states, [("aa", 3, ("", "aa", "a")), (None, 2, ("", "aa")), ("", 1, ("",)), (None, 0, ())])
        self.assertIs(listener.undo(), False)
        self.assertEqual((listener.guess, listener.changes, listener.heard), (None, 0, ()))
        self.assertEqual(listener.hear(""), "")
        self.assertEqual(listener.changes, 1)

    def test_undo_of_a_doubled_thing(self):
        listener = Listener(SHORT)
        listener.hear_all(["", "a", "a", None, ""])
        for _ in range(3):
            listener.undo()
        self.assertEqual((listener.guess, listener.heard), ("a", ("", "a")))
        listener.undo()
        self.assertEqual((listener.guess, listener.heard), ("", ("",)))

    def test_random_steps(self):
        changes = 0
        for number, family in enumerate(families()):
            draw = random.Random(number)
            listener = Listener(family)
            steps = []
            things = words_of(family[1], 2)[:6] + [None]
            for _ in range(14):
                kind = draw.randrange(5)
                before = list(steps)
                if kind == 0:
                    self.assertIs(listener.undo(), bool(steps))
                    steps = steps[:-1]
                elif kind == 1:
                    more = [draw.choice(things) for _ in range(draw.randint(0, 3))]
                    steps = before + more
                    answer = listener.hear_all(more)
                elif kind == 2:
                    steps = before + [None]
                    answer = listener.pause()
                else:
                    steps = before + [draw.choice(things[:-1])]
                    answer = listener.hear(steps[-1])
                guesses = [
                    guess(family, [step for step in steps[:at] if step is not None]) for at in range(len(steps) + 1)
                ]
                if kind:
                    self.assertEqual(answer, guesses[-1])
                state = (listener.guess, listener.changes, listener.heard)
                self.assertEqual(state, (guesses[-1], changes_of(guesses), tuple(steps)))
                changes += listener.changes
        self.assertGreater(changes, 100)

    def test_many_steps(self):
        listener = Listener(SHORT)
        steps = ["a" * (at // 3) for at in range(180)] + [None] * 20
        self.assertEqual(listener.hear_all(steps), "a" * 59)
        self.assertEqual((listener.changes, listener.heard), (60, tuple(steps)))


class TestErrors(unittest.TestCase):
    def test_no_family(self):
        for family in BROKEN:
            with self.assertRaises(NoFamily) as caught:
                Listener(family)
            self.assertIsInstance(caught.exception, GuessError)

    def test_no_word(self):
        for family in (SHORT, NEVER):
            listener = Listener(family)
            listener.hear_all(["", "a"])
            state = (listener.guess, listener.changes, listener.heard)
            for text in ("b", "ab", "A", " ", "a ", "a\n", "-", "\t"):
                with self.assertRaises(NoWord) as caught:
                    listener.hear(text)
                self.assertIsInstance(caught.exception, GuessError)
                self.assertEqual((listener.guess, listener.changes, listener.heard), state)
                for steps in ([text], ["aa", text], [text, "aa"], [None, "aa", text, None]):
                    with self.assertRaises(NoWord):
                        listener.hear_all(steps)
                    self.assertEqual((listener.guess, listener.changes, listener.heard), state)
            self.assertIs(listener.undo(), True)
            self.assertEqual(listener.heard, ("",))


class TestApart(unittest.TestCase):
    def test_two_listeners(self):
        one, other = Listener(SHORT), Listener(SHORT)
        one.hear("")
        self.assertEqual((other.guess, other.changes, other.heard), (None, 0, ()))
        other.hear("a")
        self.assertEqual((one.guess, one.changes, one.heard), ("", 1, ("",)))

    def test_lists_and_tuples(self):
        listener = Listener(SHORT)
        steps = ["", None, "a"]
        listener.hear_all(steps)
        self.assertEqual(steps, ["", None, "a"])
        steps.append("aa")
        steps[0] = "aaa"
        heard = listener.heard
        self.assertEqual((heard, type(heard), listener.guess), (("", None, "a"), tuple, "a"))
        listener.undo()
        self.assertEqual((heard, listener.heard), (("", None, "a"), ("", None)))


if __name__ == "__main__":
    unittest.main()

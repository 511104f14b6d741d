"""The errors of the interface: their names, their order and the attributes of BadText."""

import unittest

from guessrests import errors

NAMES = ("NoFamily", "NoWord", "NoCondition", "HasBound", "Clash", "BadText")


def made(name):
    """An error of the class with this name."""
    wanted = getattr(errors, name)
    return wanted(3, 7) if name == "BadText" else wanted("why")


class TestErrors(unittest.TestCase):
    def test_base_is_directly_under_value_error(self):
        self.assertEqual(errors.GuessError.__bases__, (ValueError,))

    def test_each_is_directly_under_the_base(self):
        for name in NAMES:
            self.assertEqual(getattr(errors, name).__bases__, (errors.GuessError,), name)

    def test_none_is_another_one(self):
        for name in NAMES:
            kinds = [other for other in NAMES if isinstance(made(name), getattr(errors, other))]
            self.assertEqual(kinds, [name])

    def test_each_is_a_value_error_when_raised(self):
        for name in NAMES:
            for wide in (ValueError, errors.GuessError):
                with self.assertRaises(wide):
                    raise made(name)

    def test_all_are_defined_in_the_file(self):
        for name in NAMES + ("GuessError",):
            wanted = getattr(errors, name)
            self.assertEqual((wanted.__module__, wanted.__name__), ("guessrests.errors", name))

    def test_bad_text_has_its_place(self):
        error = errors.BadText(3, 7)
        self.assertEqual((error.line, error.at), (3, 7))

    def test_bad_text_takes_its_attributes_by_name(self):
        error = errors.BadText(at=4, line=0)
        self.assertEqual((error.line, error.at), (0, 4))

    def test_two_bad_texts_do_not_share_their_place(self):
        first = errors.BadText(1, 2)
        second = errors.BadText(5, 6)
        self.assertEqual((first.line, first.at, second.line, second.at), (1, 2, 5, 6))

    def test_every_error_has_a_text(self):
        for name in NAMES:
            self.assertIsInstance(str(made(name)), str)


if __name__ == "__main__":
    unittest.main()

"""Alphabets, words, their order and their numbers: promise [4]."""

import itertools
import string
import unittest

from guessrests.words import compare_words, is_alphabet, is_word, number_of, word_at, words_up_to
from samples import ALPHABETS, words_of

# All characters that callers may pass.
SIGNS = [chr(code) for code in range(ord(" "), ord("~") + 1)] + ["\n", "\t"]
FOREIGN = ["A", "Z", "0", "9", " ", "\n", "\t", "-", "/", "`", "{", "~", "@", "[", "m", "q"]
HUGE = 10 ** 5000
GREATEST = {1: 1000, 2: 10 ** 20 - 1, 3: 10 ** 20 - 1}


def greatest_words(alphabet):
    """The words with the greatest numbers that may be asked for, in order."""
    greatest = GREATEST[len(alphabet)]
    return [word_at(alphabet, greatest - back) for back in range(40, -1, -1)]


class TestIsAlphabet(unittest.TestCase):
    def check(self, text, expected):
        self.assertIs(is_alphabet(text), expected, repr(text))

    def test_one_two_and_three_ascending_letters(self):
        for many in (1, 2, 3):
            for letters in itertools.combinations(string.ascii_lowercase, many):
                self.check("".join(letters), True)

    def test_empty_string(self):
        self.check("", False)

    def test_only_the_letters_from_a_to_z_are_single_alphabets(self):
        for sign in SIGNS:
            self.check(sign, sign in string.ascii_lowercase)

    def test_all_pairs_of_characters(self):
        right = {left + other for left, other in itertools.combinations(string.ascii_lowercase, 2)}
        for pair in itertools.product(SIGNS, repeat=2):
            text = "".join(pair)
            self.check(text, text in right)

    def test_all_triples_of_letters(self):
        right = {"".join(three) for three in itertools.combinations(string.ascii_lowercase, 3)}
        for three in itertools.product(string.ascii_lowercase, repeat=3):
            text = "".join(three)
            self.check(text, text in right)

    def test_a_foreign_character_at_each_place_of_three(self):
        for sign in SIGNS:
            if sign not in string.ascii_lowercase:
                for at in range(4):
                    self.check("acz"[:at] + sign + "acz"[at:], False)
                for at in range(3):
                    self.check("acz"[:at] + sign + "acz"[at + 1:], False)

    def test_four_and_more_letters(self):
        for letters in itertools.combinations(string.ascii_lowercase, 4):
            self.check("".join(letters), False)
        for many in range(4, 27):
            self.check(string.ascii_lowercase[:many], False)
        self.check("a" * 4, False)
        self.check("abc" * 30000, False)

    def test_a_letter_twice(self):
        for text in ("aa", "zz", "aab", "abb", "aba", "aaa", "bab"):
            self.check(text, False)

    def test_letters_out_of_order(self):
        for text in ("ba", "zy", "acb", "bac", "bca", "cab", "cba"):
            self.check(text, False)

    def test_capital_letters_digits_signs_and_space(self):
        for text in ("A", "Ab", "aB", "ABC", "a1", "12", "a-", "a b", " ab", "ab ", "a\n", "\nab", "ab\n", "a\tb"):
            self.check(text, False)


class TestIsWord(unittest.TestCase):
    def check(self, alphabet, text, expected):
        self.assertIs(is_word(alphabet, text), expected, repr((alphabet, text[:80])))

    def test_empty_word(self):
        for alphabet in ALPHABETS:
            self.check(alphabet, "", True)

    def test_words_of_each_alphabet(self):
        for alphabet in ALPHABETS:
            for word in words_of(alphabet, 5):
                self.check(alphabet, word, True)

    def test_all_characters_alone(self):
        for alphabet in ALPHABETS:
            for sign in SIGNS:
                self.check(alphabet, sign, sign in alphabet)

    def test_all_pairs_of_characters(self):
        for alphabet in ("b", "ax", "bmz"):
            for left, right in itertools.product(SIGNS, repeat=2):
                self.check(alphabet, left + right, left in alphabet and right in alphabet)

    def test_one_foreign_character_at_each_place(self):
        for alphabet in ("a", "ab", "xyz", "amz"):
            for length in (1, 2, 3, 7, 60):
                word = (alphabet * 60)[:length]
                for sign in FOREIGN:
                    if sign not in alphabet:
                        for at in range(length):
                            self.check(alphabet, word[:at] + sign + word[at + 1:], False)
                        self.check(alphabet, sign + word, False)
                        self.check(alphabet, word + sign, False)

    def test_very_long_strings(self):
        for alphabet in ("b", "ab", "abc"):
            word = alphabet * 40000
            self.check(alphabet, word, True)
            for sign in ("d", "B", "\n", " "):
                for at in (0, 1, 59, 60, 61, 1000, len(word) // 2, len(word) - 2, len(word) - 1):
                    self.check(alphabet, word[:at] + sign + word[at + 1:], False)

    def test_the_alphabet_backwards_and_neighbours(self):
        self.check("ac", "ca", True)
        self.check("ac", "b", False)
        self.check("ac", "abc", False)
        self.check("abc", "cba", True)

    def test_two_alphabets_by_turns(self):
        for _ in range(3):
            self.check("ab", "abba", True)
            self.check("xy", "abba", False)
            self.check("xy", "xyyx", True)
            self.check("ab", "xyyx", False)
            self.check("abc", "abba", True)
            self.check("b", "abba", False)
            self.check("b", "", True)


class TestCompareWords(unittest.TestCase):
    def check(self, alphabet, left, right, expected):
        answer = compare_words(alphabet, left, right)
        self.assertIs(type(answer), int)
        self.assertEqual(answer, expected, (alphabet, left, right))

    def check_both_orders(self, alphabet, earlier, later):
        self.check(alphabet, earlier, later, -1)
        self.check(alphabet, later, earlier, 1)

    def test_all_short_words(self):
        for alphabet, longest in (("k", 12), ("bz", 4), ("amz", 3)):
            words = words_of(alphabet, longest)
            for (left, first), (right, second) in itertools.product(enumerate(words), repeat=2):
                self.check(alphabet, first, second, (left > right) - (left < right))

    def test_shorter_comes_before_longer(self):
        self.check_both_orders("ab", "b", "aa")
        self.check_both_orders("ab", "bbb", "aaaa")
        self.check_both_orders("abc", "", "a")
        self.check_both_orders("abc", "c" * 59, "a" * 60)
        self.check_both_orders("ab", "b" * 9, "a" * 10)

    def test_first_differing_letter_decides(self):
        self.check_both_orders("ab", "abb", "baa")
        self.check_both_orders("abc", "acc", "baa")
        self.check_both_orders("abc", "cab", "cba")

    def test_words_of_sixty_letters(self):
        for alphabet in ("ab", "abc", "amz"):
            base = (alphabet * 60)[:60]
            self.check(alphabet, base, base, 0)
            for at in range(60):
                low = base[:at] + alphabet[0] + alphabet[-1] * (59 - at)
                high = base[:at] + alphabet[1] + alphabet[0] * (59 - at)
                self.check_both_orders(alphabet, low, high)

    def test_equal_words(self):
        for alphabet in ALPHABETS:
            for word in ["", alphabet, alphabet * 20] + greatest_words(alphabet):
                self.check(alphabet, word, "".join(list(word)), 0)

    def test_words_with_the_greatest_numbers(self):
        for alphabet in ALPHABETS:
            words = greatest_words(alphabet)
            for left, right in itertools.combinations(words, 2):
                self.check_both_orders(alphabet, left, right)
            self.check_both_orders(alphabet, "", words[0])
            self.check_both_orders(alphabet, alphabet[-1] * (len(words[0]) - 1), words[0])

    def test_two_alphabets_by_turns(self):
        for _ in range(3):
            self.check("ab", "a", "b", -1)
            self.check("bc", "c", "b", 1)
            self.check("ab", "b", "a", 1)
            self.check("bc", "b", "bb", -1)


class TestNumbers(unittest.TestCase):
    def check(self, alphabet, number, word):
        self.assertEqual(word_at(alphabet, number), word)
        answer = number_of(alphabet, word)
        self.assertIs(type(answer), int)
        self.assertEqual(answer, number, (alphabet, word))

    def test_written_out(self):
        self.check("ab", 0, "")
        self.check("ab", 1, "a")
        self.check("ab", 2, "b")
        self.check("ab", 3, "aa")
        self.check("ab", 6, "bb")
        self.check("ab", 7, "aaa")
        self.check("amz", 3, "z")
        self.check("amz", 4, "aa")
        self.check("amz", 12, "zz")
        self.check("q", 5, "qqqqq")

    def test_all_short_words(self):
        for alphabet in ALPHABETS:
            for number, word in enumerate(words_of(alphabet, 7)):
                self.check(alphabet, number, word)

    def test_one_letter_up_to_the_greatest_number(self):
        for alphabet in ("a", "z"):
            for number in range(1001):
                self.check(alphabet, number, alphabet * number)

    def test_numbers_up_to_twenty_digits(self):
        for alphabet in ("ab", "bz", "abc", "amz"):
            numbers = [10 ** digits + more for digits in range(4, 20) for more in (-1, 0, 1, 12345)]
            numbers += [GREATEST[2] - back for back in range(50)]
            words = [word_at(alphabet, number) for number in numbers]
            self.assertEqual([number_of(alphabet, word) for word in words], numbers)
            self.assertEqual(len(set(words)), len(set(numbers)))
            self.assertTrue(all(set(word) <= set(alphabet) for word in words))

    def test_greatest_numbers_by_hand(self):
        # Of two letters, the number with a leading 1 in front of its places is the number + 1.
        for number in (10 ** 20 - 1, 10 ** 19, 2 ** 60, 2 ** 60 - 1, 2 ** 60 - 2):
            binary = format(number + 1, "b")[1:]
            self.check("ab", number, binary.replace("0", "a").replace("1", "b"))

    def test_first_and_last_of_each_length(self):
        for alphabet in ("ab", "bz", "abc", "amz"):
            first = 0
            length = 0
            while first <= GREATEST[2]:
                last = first + len(alphabet) ** length - 1
                self.check(alphabet, first, alphabet[0] * length)
                if last <= GREATEST[2]:
                    self.check(alphabet, last, alphabet[-1] * length)
                first = last + 1
                length += 1
            self.assertGreater(length, 40)

    def test_numbers_of_words_with_sixty_letters(self):
        for alphabet in ("k", "bz", "amz"):
            many = len(alphabet)
            first = sum(many ** length for length in range(60))
            self.assertEqual(number_of(alphabet, alphabet[0] * 60), first)
            self.assertEqual(number_of(alphabet, alphabet[-1] * 60), first + many ** 60 - 1)
            self.assertEqual(number_of(alphabet, alphabet[0] * 59 + alphabet[-1]), first + many - 1)
            self.assertEqual(number_of(alphabet, alphabet[-1] + alphabet[0] * 59), first + (many - 1) * many ** 59)

    def test_order_of_words_is_the_order_of_numbers(self):
        for alphabet in ALPHABETS:
            words = greatest_words(alphabet)
            greatest = GREATEST[len(alphabet)]
            self.assertEqual([number_of(alphabet, word) for word in words], list(range(greatest - 40, greatest + 1)))

    def test_below_zero_there_is_none(self):
        for alphabet in ALPHABETS:
            for number in (-1, -2, -3, -1000, -10 ** 20, -HUGE, -HUGE - 1):
                self.assertIsNone(word_at(alphabet, number))

    def test_two_alphabets_by_turns(self):
        for _ in range(3):
            self.check("ab", 5, "ba")
            self.check("xyz", 5, "xy")
            self.check("c", 5, "ccccc")
            self.check("bc", 5, "cb")


class TestWordsUpTo(unittest.TestCase):
    def test_all_words_in_order_and_once(self):
        for alphabet in ALPHABETS:
            for longest in range(9):
                words = words_up_to(alphabet, longest)
                self.assertIs(type(words), list)
                self.assertEqual(words, words_of(alphabet, longest))

    def test_written_out(self):
        self.assertEqual(words_up_to("ab", 0), [""])
        self.assertEqual(words_up_to("ab", 2), ["", "a", "b", "aa", "ab", "ba", "bb"])
        self.assertEqual(words_up_to("z", 3), ["", "z", "zz", "zzz"])

    def test_how_many(self):
        self.assertEqual([len(words_up_to(alphabet, 8)) for alphabet in ("a", "ab", "abc")], [9, 511, 9841])

    def test_changing_a_returned_list_changes_no_later_answer(self):
        for alphabet in ("a", "ab", "abc"):
            for longest in (0, 1, 3, 8):
                expected = words_of(alphabet, longest)
                first = words_up_to(alphabet, longest)
                second = words_up_to(alphabet, longest)
                first.clear()
                self.assertEqual(second, expected)
                second.append("other")
                second[0] = "other"
                self.assertEqual(words_up_to(alphabet, longest), expected)
                self.assertEqual(words_up_to(alphabet, longest + 1), words_of(alphabet, longest + 1))

    def test_two_alphabets_by_turns(self):
        for _ in range(3):
            self.assertEqual(words_up_to("ab", 1), ["", "a", "b"])
            self.assertEqual(words_up_to("xyz", 1), ["", "x", "y", "z"])
            self.assertEqual(words_up_to("ab", 0), [""])


if __name__ == "__main__":
    unittest.main()

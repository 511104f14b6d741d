"""Alphabets, words, their order and their numbers."""

_LETTERS = "abcdefghijklmnopqrstuvwxyz"
_MOST_LETTERS = 3


def is_alphabet(text):
    """Tell if the string is one to three different letters in alphabetical order."""
    if not 1 <= len(text) <= _MOST_LETTERS:
        return False
    return is_word(_LETTERS, text) and list(text) == sorted(set(text))


def is_word(alphabet, text):
    """Tell if the string has letters of the alphabet only."""
    return all(letter in alphabet for letter in text)


def compare_words(alphabet, left, right):
    """Return -1 if the left word comes first, 0 if both are equal, 1 otherwise."""
    if left == right:
        return 0
    if len(left) != len(right):
        return -1 if len(left) < len(right) else 1
    # The letters of an alphabet ascend, so words of one length compare as strings do.
    return -1 if left < right else 1


def word_at(alphabet, n):
    """Return the word with the number n, or None if n is below 0."""
    if n < 0:
        return None
    letters = []
    rest = n
    while rest > 0:
        # The empty word takes the number 0, so each letter counts from 1, not from 0.
        rest, place = divmod(rest - 1, len(alphabet))
        letters.append(alphabet[place])
    return "".join(reversed(letters))


def number_of(alphabet, word):
    """Return the number of the word."""
    number = 0
    for letter in word:
        number = number * len(alphabet) + alphabet.index(letter) + 1
    return number


def words_up_to(alphabet, n):
    """Return the list of the words with at most n letters, in order."""
    words = []
    row = [""]
    for _ in range(n + 1):
        words.extend(row)
        row = [word + letter for word in row for letter in alphabet]
    return words

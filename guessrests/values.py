"""Names, things and lengths as words on tracks. A word is a list of letters, which are numbers."""


def size_of(family, kind):
    """Return the number of letters on a track for values of this kind."""
    return 1 if kind == "length" else len(_alphabet_of(family, kind))


def letters_of(family, kind, value):
    """Return the word that stands for the value."""
    if kind == "length":
        return [0] * value
    alphabet = _alphabet_of(family, kind)
    return [alphabet.index(letter) for letter in value]


def value_of(family, kind, letters):
    """Return the value for which the word stands; None stands for None."""
    if letters is None:
        return None
    if kind == "length":
        return len(letters)
    alphabet = _alphabet_of(family, kind)
    return "".join([alphabet[letter] for letter in letters])


def _alphabet_of(family, kind):
    """Return the alphabet of the names or of the things."""
    return family[0] if kind == "name" else family[1]

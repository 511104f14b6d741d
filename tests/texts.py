"""Which lines can be read, told by lists of what may follow, without the program."""

import re

from samples import COLUMNS

TOKEN = re.compile(r"[a-z]+|[0-9]+|[:,/\-=<!\[\]&?*]")
# What stands behind the last token. None stands where no token begins.
END = ""


def tokens_of(line):
    """The pairs of a place and a token, with END or None at last."""
    found, at = [], 0
    while True:
        while line[at:at + 1] == " ":
            at += 1
        if at == len(line):
            return found + [(at, END)]
        match = TOKEN.match(line, at)
        if match is None or re.fullmatch("0[0-9]+", match.group()):
            return found + [(at, None)]
        found.append((at, match.group()))
        at = match.end()


def is_word(token):
    return token is not None and re.fullmatch("[a-z]+", token) is not None


def is_number(token):
    return token is not None and re.fullmatch("[0-9]+", token) is not None


def is_alphabet(token):
    return is_word(token) and len(token) <= 3 and token == "".join(sorted(set(token)))


def exactly(*wanted):
    return lambda token: token is not None and token in wanted


def wrong_in_condition(line):
    """The place at which the text of a condition cannot be read, or None."""
    waiting = ["F"]
    for at, token in tokens_of(line):
        if not waiting:
            return None if token == END else at
        wanted = waiting.pop()
        if wanted != "F":
            if not wanted(token):
                return at
        elif token == "!":
            waiting.append("F")
        elif token == "[":
            waiting += [exactly("]"), "F", exactly("&", "/"), "F"]
        elif token in ("?", "*"):
            waiting += ["F", exactly("name", "thing", "length"), is_word]
        elif is_word(token):
            waiting += [is_word, exactly("in", "fits", "=", "<")]
        else:
            return at
    return None


def wrong_in_line(line, wanted):
    """The place at which a line cannot be read whose tokens shall be these, or None."""
    for (at, token), fits in zip(tokens_of(line), wanted + [exactly(END)] * 2):
        if not fits(token):
            return at
    return None


def wrong_in_marks(line):
    """The place at which a line of marks cannot be read, or None."""
    tokens = tokens_of(line)
    for place, (at, token) in enumerate(tokens):
        fits = exactly("marks") if place == 0 else (is_number if place % 2 else exactly(",", END))
        # Behind the first word the line may end, but not behind a comma.
        if not fits(token) and not (place == 1 and token == END):
            return at
    return None


def wrong_in_family(text):
    """The pair (line, at) at which the text of a family cannot be read, or None."""
    lines = text.split("\n")
    there = [(number, line) for number, line in enumerate(lines) if line.replace(" ", "")]
    for place, (number, line) in enumerate(there):
        if place < 2:
            at = wrong_in_line(line, [exactly(("names", "things")[place]), is_alphabet])
        elif place == 2:
            at = wrong_in_line(line, [exactly("start"), is_number])
        elif place == 3:
            at = wrong_in_marks(line)
        else:
            alphabets = tuple(tokens_of(there[at_line][1])[1][1] for at_line in (0, 1))
            wanted = [exactly(str(place - 4))]
            for left, right in columns_of(*alphabets):
                wanted += [exactly("," if len(wanted) > 1 else ":"), exactly(left), exactly("/"), exactly(right), is_number]
            at = wrong_in_line(line, wanted)
        if at is not None:
            return number, at
    return None if len(there) > 4 else (len(lines), 0)


def columns_of(names, things):
    """The columns as they are written."""
    known = COLUMNS.get((names, things))
    columns = known or [(left, right) for left in [*names, ""] for right in [*things, ""] if left + right]
    return [(left or "-", right or "-") for left, right in columns]


def mutated(draw, text):
    """The text with a small change at one place."""
    at = draw.randint(0, len(text))
    pieces = list("abxyz0129 :,/-=<![]&?*\n\t.A(")
    pieces += ["  ", "00", "01", "10", "in", "fits", "name", " thing ", "length", "marks", "\n\n", "start", ", 0", "!a"]
    kind = draw.randrange(4)
    if kind == 0:
        return text[:at] + draw.choice(pieces) + text[at:]
    if kind == 1:
        return text[:at] + text[at + draw.randint(1, 4):]
    if kind == 2:
        return text[:at] + draw.choice(pieces) + text[at + 1:]
    return text[:at]


def random_condition(draw, depth):
    """A condition with any variables, valid or not."""
    def variable():
        return draw.choice(["x", "i", "n", "in", "fits", "name", "thing", "length", "some", "abcdefgh" * 5, "z"])

    kind = draw.randrange(9) if depth else draw.randrange(4)
    if kind < 4:
        return draw.choice(["in", "fits", "same", "before"]), variable(), variable()
    if kind == 4:
        return "not", random_condition(draw, depth - 1)
    if kind < 7:
        return draw.choice(["both", "either"]), random_condition(draw, depth - 1), random_condition(draw, depth - 1)
    kinds = draw.choice(["name", "thing", "length"])
    return draw.choice(["some", "each"]), variable(), kinds, random_condition(draw, depth - 1)


def spaced(draw, line):
    """The line with other numbers of spaces between its tokens, which stay the same."""
    parts, last = [], ""
    for match in TOKEN.finditer(line):
        token = match.group()
        both_words = last.isalpha() and token.isalpha()
        both_numbers = last.isdigit() and token.isdigit()
        parts.append(" " * draw.randint(1 if both_words or both_numbers else 0, 3) + token)
        last = token
    return "".join(parts) + " " * draw.randint(0, 2)

"""The texts of families and conditions."""

from guessrests.families import columns_of

_SIGNS = {"same": "=", "before": "<", "both": "&", "either": "/", "some": "?", "each": "*"}
_BLANK = "-"


def write_family(family):
    """Return the text of the family."""
    names, things, start, marks, steps = family
    lines = [f"names {names}", f"things {things}", f"start {start}"]
    lines.append(" ".join(["marks", _listed(marks)]) if marks else "marks")
    columns = [f"{left or _BLANK}/{right or _BLANK}" for left, right in columns_of(family)]
    for number, row in enumerate(steps):
        parts = _listed([f"{column} {state}" for column, state in zip(columns, row)])
        lines.append(f"{number}: {parts}")
    return "\n".join(lines)


def write_condition(condition):
    """Return the text of the condition."""
    word = condition[0]
    if word == "not":
        return "!" + write_condition(condition[1])
    if word in ("both", "either"):
        return f"[{write_condition(condition[1])} {_SIGNS[word]} {write_condition(condition[2])}]"
    if word in ("some", "each"):
        return f"{_SIGNS[word]}{condition[1]} {condition[2]} {write_condition(condition[3])}"
    return f"{condition[1]} {_SIGNS.get(word, word)} {condition[2]}"


def _listed(parts):
    """Return the parts with commas between them."""
    return ", ".join([str(part) for part in parts])

"""The forms of texts: one table, by which texts are read and written and steps are judged.

A form begins with its kind:
- "number": a number;
- "word": one of some words, the value is the word;
- "none": a word for None, or else a form;
- "one": a word and a form, the value is that of the form;
- "row": a word and forms, the value is the tuple of theirs;
- "kind": one of some rows, the value begins with the row's word;
- "list", "lines": a sign, any number of one form, a sign; "lines" has a line for each.
"""

from besthours.errors import BadText
from besthours.wording import is_number, is_number_word, placed_words

FORMS = {
    "N": ("number",),
    "NS": ("list", "(", "N", ")"),
    "SET": ("list", "{", "N", "}"),
    "ANY": ("none", "any", "SET"),
    "BOOK": ("row", "book", "DAYS", "ROOMS", "PEOPLE", "GROUPS", "TASKS", "RULES"),
    "DAYS": ("lines", "(", "N", ")"),
    "ROOMS": ("lines", "(", "ROOM", ")"),
    "PEOPLE": ("lines", "(", "PERSON", ")"),
    "GROUPS": ("lines", "(", "N", ")"),
    "TASKS": ("lines", "(", "TASK", ")"),
    "RULES": ("lines", "(", "RULE", ")"),
    "ROOM": ("row", "room", "N", "SET"),
    "PERSON": ("one", "may", "SET"),
    "TASK": ("row", "task", "N", "ANY", "SET", "SET", "ROOMED", "PRICES"),
    "ROOMED": ("none", "none", "SET"),
    "PRICES": ("list", "(", "PRICE", ")"),
    "PRICE": ("row", "price", "N", "N"),
    "RULE": ("row", "rule", "WHAT", "MUST"),
    "MUST": ("none", "must", "N"),
    "WHAT": (
        "kind",
        ("least", "SET", "AT", "N"),
        ("most", "SET", "AT", "N"),
        ("load", "SET", "AT", "N", "N"),
        ("before", "N", "N", "N"),
        ("alike", "N", "N", "SORT"),
        ("unlike", "N", "N", "SORT"),
        ("close", "WHO", "SET"),
    ),
    "AT": ("row", "at", "ANY", "ANY", "ANY"),
    "SORT": ("word", "day", "start", "room", "person"),
    "WHO": ("kind", ("person", "N"), ("group", "N")),
    "PLAN": ("one", "plan", "SPOTS"),
    "SPOTS": ("lines", "(", "SPOT", ")"),
    "SPOT": ("row", "spot", "N", "MAYBE", "MAYBE"),
    "MAYBE": ("none", "none", "N"),
    "PROOF": ("one", "proof", "STEPS"),
    "STEPS": ("lines", "(", "STEP", ")"),
    "STEP": (
        "kind",
        ("demand", "N"),
        ("given", "N"),
        ("add", "PAIRS"),
        ("divide", "N", "N"),
        ("cap", "N"),
        ("raise", "N", "TERMS"),
    ),
    "PAIRS": ("list", "(", "TIMES", ")"),
    "TIMES": ("row", "times", "N", "N"),
    "TERMS": ("list", "(", "WEIGHTS", ")"),
    "WEIGHTS": ("row", "weights", "N", "NS"),
}


def row_named(rows, word):
    """The one of some rows that begins with a word, None without one."""
    for row in rows:
        if row[0] == word:
            return row
    return None


def has_forms(names, values):
    """Whether values have the forms with these names, one by one."""
    return len(values) == len(names) and all(has_form(name, value) for name, value in zip(names, values))


def has_kind(rows, value):
    """Whether a value is one of some rows."""
    if not isinstance(value, tuple) or len(value) == 0 or not isinstance(value[0], str):
        return False
    row = row_named(rows, value[0])
    return row is not None and has_forms(row[1:], value[1:])


def has_form(name, value):
    """Whether a value of any kind has the form of a step, or of a part of one, with this name."""
    # steps have no forms of the kinds "word", "none", "one" and "lines"
    kind, *parts = FORMS[name]
    if kind == "number":
        return is_number(value)
    if kind == "kind":
        return has_kind(parts, value)
    if not isinstance(value, tuple):
        return False
    if kind == "row":
        return has_forms(parts[1:], value)
    return all(has_form(parts[1], item) for item in value)


def forms_text(word, names, values):
    """The text of a word and of values that have the forms with these names."""
    return " ".join([word] + [form_text(name, value) for name, value in zip(names, values)])


def list_text(kind, parts, values):
    """The text of a list: in lines of its own behind the first sign if it is of the kind "lines"."""
    opening, name, closing = parts
    pieces = [opening] + [form_text(name, value) for value in values] + [closing]
    return "\n".join(pieces) if kind == "lines" else " ".join(pieces)


def form_text(name, value):
    """The text of a value that has the form with a name."""
    kind, *parts = FORMS[name]
    if kind == "number":
        return str(value)
    if kind == "word":
        return value
    if kind == "none":
        return parts[0] if value is None else form_text(parts[1], value)
    if kind == "one":
        return forms_text(parts[0], parts[1:], [value])
    if kind == "row":
        return forms_text(parts[0], parts[1:], value)
    if kind == "kind":
        return forms_text(value[0], row_named(parts, value[0])[1:], value[1:])
    return list_text(kind, parts, value)


def need_word(words, at, fits):
    """Refuse the word with the number `at` at its place unless it fits."""
    if not fits:
        _, line, number = words[at]
        raise BadText(line, number)


def read_forms(names, words, at):
    """Read the forms with these names: (VALUES, the number of the word behind them)."""
    values = []
    for name in names:
        value, at = read_form(name, words, at)
        values.append(value)
    return tuple(values), at


def read_list(parts, words, at):
    """Read a list: (VALUES, the number of the word behind it)."""
    opening, name, closing = parts
    need_word(words, at, words[at][0] == opening)
    at += 1
    values = []
    while words[at][0] != closing:
        value, at = read_form(name, words, at)
        values.append(value)
    return tuple(values), at + 1


def read_kind(rows, words, at):
    """Read one of some rows: (VALUE, the number of the word behind it)."""
    word = words[at][0]
    row = row_named(rows, word)
    need_word(words, at, row is not None)
    values, at = read_forms(row[1:], words, at + 1)
    return (word,) + values, at


def read_row(kind, parts, words, at):
    """Read a word and forms: (VALUE, the number of the word behind them)."""
    need_word(words, at, words[at][0] == parts[0])
    values, at = read_forms(parts[1:], words, at + 1)
    return (values[0] if kind == "one" else values), at


def read_form(name, words, at):
    """Read the form with a name from the word `at` on: (VALUE, the number of the word behind it)."""
    kind, *parts = FORMS[name]
    word = words[at][0]
    if kind == "number":
        need_word(words, at, is_number_word(word))
        return int(word), at + 1
    if kind == "word":
        need_word(words, at, word in parts)
        return word, at + 1
    if kind == "none":
        return (None, at + 1) if word == parts[0] else read_form(parts[1], words, at)
    if kind == "kind":
        return read_kind(parts, words, at)
    if kind == "one" or kind == "row":
        return read_row(kind, parts, words, at)
    return read_list(parts, words, at)


def read_text(name, text):
    """The value of a text that has the form with a name as a whole."""
    if not isinstance(text, str):
        raise BadText(0, 0)
    words = placed_words(text)
    value, at = read_form(name, words, 0)
    need_word(words, at, words[at][0] == "")
    return value

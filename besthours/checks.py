"""What integers, tuples and SETs are, asked of values of any kind."""

LAST_HOUR = 83
LAST_ROOM = 11
LAST_PERSON = 29


def is_integer(value):
    """Whether a value is an integer."""
    # bool is beneath int in Python, but True and False are no integers here
    return isinstance(value, int) and not isinstance(value, bool)


def is_within(value, low, high):
    """Whether a value is an integer from `low` to `high`."""
    return is_integer(value) and low <= value <= high


def is_from(value, low):
    """Whether a value is an integer from `low` on."""
    return is_integer(value) and value >= low


def is_row(value, many):
    """Whether a value is a tuple of just so many things."""
    return isinstance(value, tuple) and len(value) == many


def is_word(value, words):
    """Whether a value is one of some words."""
    # a thing of another kind may be equal to all others, so the kind is asked first
    return isinstance(value, str) and value in words


def word_of(value, lengths):
    """The word of a tuple that begins with one and is as long as `lengths`, (WORD, LENGTH) .., tell; else None."""
    if not isinstance(value, tuple) or len(value) == 0 or not isinstance(value[0], str):
        return None
    for word, many in lengths:
        if value[0] == word and len(value) == many:
            return word
    return None


def is_set(value, most):
    """Whether a value is a SET of integers from 0 to `most`."""
    if not isinstance(value, tuple):
        return False
    least = 0
    for item in value:
        if not is_within(item, least, most):
            return False
        least = item + 1
    return True


def is_priced(value, last, low, high):
    """Whether a value is an ascending tuple of (HOUR, PRICE) of unlike hours up to the last one, prices so great."""
    if not isinstance(value, tuple):
        return False
    least = 0
    for pair in value:
        if not is_row(pair, 2) or not is_within(pair[0], least, last) or not is_within(pair[1], low, high):
            return False
        least = pair[0] + 1
    return True


def is_set_or_none(value, most):
    """Whether a value is None or a SET of integers from 0 to `most`."""
    return value is None or is_set(value, most)


def is_within_or_none(value, low, high):
    """Whether a value is None or an integer from `low` to `high`."""
    return value is None or is_within(value, low, high)


def is_triple(value, hour, room, person):
    """Whether a value is (HOUR, ROOM, PERSON) with integers from 0 to these, or None for the last two."""
    if not is_row(value, 3) or not is_within(value[0], 0, hour):
        return False
    return is_within_or_none(value[1], 0, room) and is_within_or_none(value[2], 0, person)


def is_standing(value):
    """Whether a value is such a triple as a spot of some book can be."""
    return is_triple(value, LAST_HOUR, LAST_ROOM, LAST_PERSON)

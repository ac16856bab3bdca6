"""What is wrong in a rule; the book's days to its tasks are right already."""

from besthours.checks import is_row, is_set, is_set_or_none, is_within, is_within_or_none, is_word

MOST_COUNT = 40
MOST_LOAD = 160
MOST_GAP = 80
MOST_PRICE = 10 ** 6

SORTS = ("day", "start", "room", "person")

# what the items behind the word of a WHAT are
ITEMS = {
    "least": ("tasks", "at", "count"),
    "most": ("tasks", "at", "count"),
    "load": ("tasks", "at", "low", "high"),
    "before": ("task", "other", "gap"),
    "alike": ("task", "other", "sort"),
    "unlike": ("task", "other", "sort"),
    "close": ("who", "tasks"),
}


def is_price(value):
    """Whether a value is the PRICE of a rule."""
    return is_within_or_none(value, 1, MOST_PRICE)


def is_at(book, value):
    """Whether a value is an AT."""
    if not is_row(value, 3):
        return False
    hours, rooms, people = value
    if not is_set_or_none(hours, sum(book[0]) - 1):
        return False
    return is_set_or_none(rooms, len(book[1]) - 1) and is_set_or_none(people, len(book[2]) - 1)


def is_who(book, value):
    """Whether a value is a WHO."""
    if not is_row(value, 2) or not is_word(value[0], ("person", "group")):
        return False
    those = book[2] if value[0] == "person" else book[3]
    return is_within(value[1], 0, len(those) - 1)


def is_number_item(what, index, kind):
    """Whether an item of a WHAT is a number as told; those ahead of it are right already."""
    value = what[index]
    if kind == "count":
        return is_within(value, 0, MOST_COUNT)
    if kind == "low":
        return is_within(value, 0, MOST_LOAD)
    if kind == "high":
        return is_within(value, what[index - 1], MOST_LOAD)
    return is_within(value, 0, MOST_GAP)


def is_item(book, what, index, kind):
    """Whether an item of a WHAT is as told; those ahead of it are right already."""
    value = what[index]
    last = len(book[4]) - 1
    if kind == "tasks":
        return is_set(value, last)
    if kind == "at":
        return is_at(book, value)
    if kind == "task":
        return is_within(value, 0, last)
    if kind == "other":
        return is_within(value, 0, last) and value != what[index - 1]
    if kind == "sort":
        return is_word(value, SORTS)
    if kind == "who":
        return is_who(book, value)
    return is_number_item(what, index, kind)


def what_fault(book, what):
    """The place of the first thing that is wrong in a WHAT, None if nothing is."""
    if not isinstance(what, tuple) or len(what) == 0 or not is_word(what[0], list(ITEMS)):
        return ()
    kinds = ITEMS[what[0]]
    if len(what) != len(kinds) + 1:
        return ()
    for index, kind in enumerate(kinds, 1):
        if not is_item(book, what, index, kind):
            return (index,)
    return None


def rule_fault(book, rule):
    """The place of the first thing that is wrong in a rule, None if nothing is."""
    if not is_row(rule, 2):
        return ()
    what, price = rule
    place = what_fault(book, what)
    if place is not None:
        return (0,) + place
    if not is_price(price):
        return (1,)
    return None

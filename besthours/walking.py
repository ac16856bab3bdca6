"""One walk through the steps of a proof; nothing here knows how answers are found."""

from besthours.checks import is_from, is_row, is_within, word_of
from besthours.steps import add_sums, cap_sum, divide_sum, is_raise, raise_sum

# how many things the steps have, their words among them
STEP_LENGTHS = (("demand", 2), ("given", 2), ("add", 2), ("divide", 3), ("cap", 2), ("raise", 3))


def item_at(things, number):
    """The thing with a number, None if there is none; the number may be a value of any kind."""
    return things[number] if is_within(number, 0, len(things) - 1) else None


def added_step(sums, pairs):
    """The sum of ("add", PAIRS), None if the step is wrong."""
    if not isinstance(pairs, tuple):
        return None
    if not all(is_row(pair, 2) and is_within(pair[0], 0, len(sums) - 1) and is_from(pair[1], 1) for pair in pairs):
        return None
    return add_sums([(sums[number], times) for number, times in pairs])


def changed_step(sizes, one, word, step):
    """The sum of a step from one sum, None if the step is wrong."""
    if word == "divide":
        return divide_sum(one, step[2]) if is_from(step[2], 1) else None
    if word == "cap":
        return cap_sum(one) if one[1] > 0 else None
    return raise_sum(one, step[2]) if is_raise(sizes, one, step[2]) else None


def step_sum(sizes, told, sums, step):
    """The sum of a step behind steps with these sums, None if it is wrong.

    `told` are the sums of the demands and the given sums.
    """
    word = word_of(step, STEP_LENGTHS)
    if word is None:
        return None
    if word == "demand":
        return item_at(told[0], step[1])
    if word == "given":
        return item_at(told[1], step[1])
    if word == "add":
        return added_step(sums, step[1])
    one = item_at(sums, step[1])
    return None if one is None else changed_step(sizes, one, word, step)


def walked(sizes, told, steps):
    """The sums of the steps up to the first wrong one."""
    sums = []
    for step in steps:
        one = step_sum(sizes, told, sums, step)
        if one is None:
            return sums
        sums.append(one)
    return sums


def right_sums(sizes, told, value):
    """The sums of a value that is a tuple of right steps, None for any other value."""
    if not isinstance(value, tuple):
        return None
    sums = walked(sizes, told, value)
    return sums if len(sums) == len(value) else None


def is_empty(one):
    """Whether a sum is ((), B) with B from 1 on: no row keeps it."""
    return one[0] == () and one[1] > 0


def refuted_by(sizes, told, value):
    """Whether a value is a tuple of right steps, the last one's sum being kept by no row."""
    sums = right_sums(sizes, told, value)
    return sums is not None and len(sums) > 0 and is_empty(sums[-1])

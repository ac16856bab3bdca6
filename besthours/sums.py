"""Sums over choices: what one is, its form, and what rows and sets come to in it."""

from besthours.checks import is_from, is_integer, is_row, is_set, is_within
from besthours.errors import BadParameter, BadSum

MOST_CHOICES = 100
MOST_VALUES = 200


def need_sizes(sizes):
    """The numbers of the values of choices, as they are handed in."""
    if not isinstance(sizes, tuple) or len(sizes) > MOST_CHOICES:
        raise BadParameter(sizes)
    if not all(is_within(many, 1, MOST_VALUES) for many in sizes):
        raise BadParameter(sizes)
    return sizes


def is_row_of(sizes, row):
    """Whether a value is a row of choices with these sizes."""
    return is_row(row, len(sizes)) and all(is_within(value, 0, many - 1) for value, many in zip(row, sizes))


def need_row_of(sizes, row):
    """A row of choices with these sizes, as it is handed in."""
    if not is_row_of(sizes, row):
        raise BadParameter(row)
    return row


def need_sets(sizes, sets):
    """A SET of at least one value for each choice, as they are handed in."""
    if not is_row(sets, len(sizes)):
        raise BadParameter(sets)
    if not all(is_set(those, many - 1) and those != () for those, many in zip(sets, sizes)):
        raise BadParameter(sets)
    return sets


def is_terms(sizes, value):
    """Whether a value is an ascending tuple of unlike choices with an integer for each of their values."""
    if not isinstance(value, tuple):
        return False
    least = 0
    for term in value:
        if not is_row(term, 2) or not is_within(term[0], least, len(sizes) - 1):
            return False
        choice, weights = term
        if not is_row(weights, sizes[choice]) or not all(is_integer(weight) for weight in weights):
            return False
        least = choice + 1
    return True


def is_sum(sizes, value):
    """Whether a value is a sum over choices with these sizes."""
    if not is_row(value, 2):
        return False
    terms, bound = value
    if not is_terms(sizes, terms) or not is_from(bound, 0):
        return False
    if bound == 0:
        return terms == ()
    return all(min(weights) == 0 and max(weights) > 0 for _, weights in terms)


def form(terms, bound):
    """The form of weights and a bound; the terms ascend already."""
    kept = []
    for choice, weights in terms:
        least = min(weights)
        bound = bound - least
        if max(weights) > least:
            kept.append((choice, weights if least == 0 else tuple([weight - least for weight in weights])))
    return (tuple(kept), bound) if bound > 0 else ((), 0)


def weight_in(one, row):
    """What the weights of a row's values come to; sum and row are right already."""
    return sum(weights[row[choice]] for choice, weights in one[0])


def is_kept_by(one, row):
    """Whether a row keeps a sum; both are right already."""
    return weight_in(one, row) >= one[1]


def top_in(weights, values):
    """The greatest weight that one of some values has."""
    return max([weights[value] for value in values])


def greatest_in(one, sets):
    """The greatest weights of a row with values of the sets; sum and sets are right already."""
    return sum(top_in(weights, sets[choice]) for choice, weights in one[0])


def need_sum(sizes, value):
    """A sum as it is handed in."""
    need_sizes(sizes)
    if not is_sum(sizes, value):
        raise BadSum(value)
    return value


def form_of(sizes, terms, bound):
    """The form of weights and a bound."""
    need_sizes(sizes)
    if not is_terms(sizes, terms):
        raise BadParameter(terms)
    if not is_integer(bound):
        raise BadParameter(bound)
    return form(terms, bound)


def weight_of(sizes, one, row):
    """What the weights of a row's values come to."""
    need_sum(sizes, one)
    return weight_in(one, need_row_of(sizes, row))


def kept_by(sizes, one, row):
    """Whether a row keeps a sum."""
    need_sum(sizes, one)
    return is_kept_by(one, need_row_of(sizes, row))


def greatest_under(sizes, one, sets):
    """The greatest weights of a row with values of the sets."""
    need_sum(sizes, one)
    return greatest_in(one, need_sets(sizes, sets))

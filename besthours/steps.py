"""The steps by which sums follow from sums, and rows of them: clauses from broken sums, and cuts."""

from besthours.checks import is_from, is_integer, is_row
from besthours.errors import BadParameter
from besthours.sums import form, greatest_in, is_terms, need_sets, need_sizes, need_sum, top_in


def add_sums(pairs):
    """The form of some sums, each so many times, added; the pairs are right already."""
    weights = {}
    bound = 0
    for (terms, least), times in pairs:
        bound = bound + times * least
        for choice, own in terms:
            more = own if times == 1 else tuple([times * weight for weight in own])
            if choice in weights:
                more = tuple([one + other for one, other in zip(weights[choice], more)])
            weights[choice] = more
    return form([(choice, weights[choice]) for choice in sorted(weights)], bound)


def divide_sum(one, by):
    """A sum divided upwards; both are right already."""
    terms, bound = one
    return form([(choice, tuple([-(-weight // by) for weight in own])) for choice, own in terms], -(-bound // by))


def is_over(one):
    """Whether a weight of a sum is above its bound."""
    terms, bound = one
    return any(max(own) > bound for _, own in terms)


def cap_sum(one):
    """A sum with no weight above its bound, which is from 1 on."""
    terms, bound = one
    return form([
        (choice, own if max(own) <= bound else tuple([min(weight, bound) for weight in own]))
        for choice, own in terms
    ], bound)


def is_no_less(weights, own):
    """Whether none of some weights is less than a choice's own, which are None where it isn't named."""
    if own is None:
        return min(weights) >= 0
    return all(new >= old for new, old in zip(weights, own))


def is_raise(sizes, one, terms):
    """Whether a value tells weights none of which is less than the sum's own."""
    if not is_terms(sizes, terms):
        return False
    have = dict(one[0])
    return all(is_no_less(weights, have.get(choice)) for choice, weights in terms)


def raise_sum(one, terms):
    """A sum with these weights in the stead of its own; both are right already."""
    weights = dict(one[0])
    weights.update(dict(terms))
    return form([(choice, weights[choice]) for choice in sorted(weights)], one[1])


def is_clause(one):
    """Whether a sum is a clause."""
    return one[1] == 1 and not is_over(one)


def added(sizes, pairs):
    """The form of some sums, each so many times, added."""
    need_sizes(sizes)
    if not isinstance(pairs, tuple) or not all(is_row(pair, 2) and is_from(pair[1], 1) for pair in pairs):
        raise BadParameter(pairs)
    for one, _ in pairs:
        need_sum(sizes, one)
    return add_sums(pairs)


def divided(sizes, one, by):
    """A sum divided upwards."""
    need_sum(sizes, one)
    if not is_from(by, 1):
        raise BadParameter(by)
    return divide_sum(one, by)


def capped(sizes, one):
    """A sum with its bound in the place of each weight above it."""
    need_sum(sizes, one)
    if one[1] == 0:
        raise BadParameter(one)
    return cap_sum(one)


def raised(sizes, one, terms):
    """A sum with greater weights in the stead of its own."""
    need_sum(sizes, one)
    if not is_raise(sizes, one, terms):
        raise BadParameter(terms)
    return raise_sum(one, terms)


def flat_terms(one):
    """The TERMS that make each weight of a sum the greatest one of its choice."""
    return tuple([(choice, (max(own),) * len(own)) for choice, own in one[0]])


def raise_to_tops(one, sets):
    """The TERMS that make all weights of a sum at least the greatest ones within the sets."""
    tops = [(choice, own, top_in(own, sets[choice])) for choice, own in one[0]]
    return tuple([(choice, tuple([max(weight, top) for weight in own])) for choice, own, top in tops if top > 0])


def clause_of(one, sets, at, many):
    """What clause_steps returns; all is right already."""
    steps = []
    terms = raise_to_tops(one, sets)
    if terms != ():
        one = raise_sum(one, terms)
        steps.append(("raise", at, terms))
    if is_over(one):
        one = cap_sum(one)
        steps.append(("cap", many + len(steps) - 1 if steps else at))
    if one[0] != () and one[1] > 1:
        steps.append(("divide", many + len(steps) - 1 if steps else at, one[1]))
        one = divide_sum(one, one[1])
    return (one, tuple(steps))


def clause_steps(sizes, one, sets, at, many):
    """(SUM, STEPS): the steps from a sum that is broken under sets to a clause that is."""
    need_sum(sizes, one)
    need_sets(sizes, sets)
    if greatest_in(one, sets) >= one[1]:
        raise BadParameter(sets)
    if not is_from(at, 0):
        raise BadParameter(at)
    if not is_from(many, at + 1):
        raise BadParameter(many)
    return clause_of(one, sets, at, many)


def joined_elsewhere(one, other, choice):
    """The TERMS with 1 at each value that one of two clauses has, but for one choice."""
    mine, theirs = dict(one[0]), dict(other[0])
    found = []
    for named in sorted(set(list(mine) + list(theirs))):
        if named != choice:
            first = mine.get(named, theirs.get(named))
            second = theirs.get(named, first)
            found.append((named, tuple([max(pair) for pair in zip(first, second)])))
    return tuple(found)


def added_cut(one, other, choice, numbers):
    """The cut of two clauses each of which has a value at the choice that the other one lacks."""
    at, far, many = numbers
    mine, theirs = dict(one[0])[choice], dict(other[0])[choice]
    steps = []
    if any(first == 0 and second == 0 for first, second in zip(mine, theirs)):
        # raised by all that the other one lacks, the two weights come to at least 1 everywhere
        terms = ((choice, tuple([max(first, 1 - second) for first, second in zip(mine, theirs)])),)
        one = raise_sum(one, terms)
        steps.append(("raise", at, terms))
        at = many
    steps.append(("add", ((min(at, far), 1), (max(at, far), 1))))
    cut = add_sums(((one, 1), (other, 1)))
    if is_over(cut):
        cut = cap_sum(cut)
        steps.append(("cap", many + len(steps) - 1))
    return (cut, tuple(steps))


def need_clause(sizes, one):
    """A clause as it is handed in."""
    need_sum(sizes, one)
    if not is_clause(one):
        raise BadParameter(one)
    return one


def need_numbers(at, far, many):
    """Refuse what are no numbers of two steps and of one behind both."""
    for number in (at, far):
        if not is_from(number, 0):
            raise BadParameter(number)
    if not is_from(many, max(at, far) + 1):
        raise BadParameter(many)


def cut_steps(sizes, one, other, choice, at, far, many):
    """(SUM, STEPS): the steps from two clauses to one that clears the choice as far as can be."""
    mine = dict(need_clause(sizes, one)[0])
    theirs = dict(need_clause(sizes, other)[0])
    if not is_integer(choice) or choice not in mine or choice not in theirs:
        raise BadParameter(choice)
    need_numbers(at, far, many)
    terms = joined_elsewhere(one, other, choice)
    # no less a weight is there: all values of the other one are this one's
    if is_no_less(mine[choice], theirs[choice]):
        return (raise_sum(other, terms), (("raise", far, terms),))
    if is_no_less(theirs[choice], mine[choice]):
        return (raise_sum(one, terms), (("raise", at, terms),))
    return added_cut(one, other, choice, (at, far, many))

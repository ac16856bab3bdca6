"""Triangles: what three sums say together, each of which says that at most one of some values can be.

A value that two of the three name is counted twice by them. So of all these values at most three halves can be, which
is at most one. Where values are mixed this says more than each of the three.
"""

from besthours.mixing import WHOLE
from besthours.steps import add_sums, divide_sum, raise_sum

# how many triangles are told at once, and how much more than one WHOLE must be shared there
MOST_TRIANGLES = 40
LEAST_MORE = 300000


def is_lone(one):
    """Whether a sum just says that at most one can be of the values for which its weights are 0."""
    terms, bound = one
    return len(terms) > 1 and bound == len(terms) - 1 and all(max(weights) == 1 for _, weights in terms)


def namers(store, numbers, shares):
    """(SHARE, SUMS) of each value with a share that several sums name; `shares` are (CHOICE, VALUE, SHARE) .. ."""
    named = {}
    for number in numbers:
        if is_lone(store.sums[number]):
            for choice, weights in store.sums[number][0]:
                named.setdefault(choice, []).append((number, weights))
    found = []
    for choice, value, share in shares:
        those = [number for number, weights in named.get(choice, []) if weights[value] == 0]
        if len(those) > 1:
            found.append((share, those))
    return found


def shared_by_two(named):
    """For each two sums the shares of what both name, by the lesser one and by the greater one."""
    found = {}
    for share, those in named:
        for at, one in enumerate(those):
            if one not in found:
                found[one] = {}
            for other in those[at + 1:]:
                found[one][other] = found[one].get(other, 0) + share
    return found


def shares_of(named, triple):
    """The shares of all values that at least two of three sums name."""
    return sum([share for share, those in named if len([one for one in triple if one in those]) > 1])


def wide_triples(named):
    """Triples of sums that let less than the shares have of what two of them name, those with the most first."""
    pairs = shared_by_two(named)
    found = []
    for one, others in pairs.items():
        for other, share in others.items():
            for third, more in pairs[other].items():
                # what all three name counts three times here, so this is only a first look
                if third in others and share + more + others[third] >= WHOLE + LEAST_MORE:
                    found.append((share + more + others[third], (one, other, third)))
    found = sorted(found, reverse=True)[:5 * MOST_TRIANGLES]
    found = [(shares_of(named, triple), triple) for _, triple in found]
    return [triple for shares, triple in sorted(found, reverse=True)[:MOST_TRIANGLES] if shares >= WHOLE + LEAST_MORE]


def raises_of(weights, place):
    """TERMS by which one of three sums names only what another one names, too, and not what both others have."""
    found = []
    for choice, own in weights[place].items():
        new = []
        for value, weight in enumerate(own):
            many = len([each for each in weights if choice in each and each[choice][value] == 0])
            new.append(0 if weight == 0 and (many == 2 or many == 3 and place < 2) else 1)
        if tuple(new) != own:
            found.append((choice, tuple(new)))
    return tuple(found)


def triangle(store, triple):
    """(SUM, STEP, TAGS) of what three sums say together."""
    weights = [dict(store.sums[number][0]) for number in triple]
    sums, steps = [], []
    tags = 0
    for place, number in enumerate(triple):
        one, step = store.sums[number], store.step_of(number)
        terms = raises_of(weights, place)
        if terms != ():
            one = raise_sum(one, terms)
            step = store.add_step(("raise", step, terms))
        sums.append((one, 1))
        steps.append((step, 1))
        tags = tags | store.tags[number]
    step = store.add_step(("add", tuple(steps)))
    return (divide_sum(add_sums(sums), 2), store.add_step(("divide", step, 2)), tags)


def triangle_sums(store, numbers, shares):
    """(SUM, STEP, TAGS) of triangles of sums with these numbers, which (CHOICE, VALUE, SHARE) .. don't keep."""
    found = [triangle(store, triple) for triple in wide_triples(namers(store, numbers, shares))]
    return [told for told in found if is_lone(told[0])]

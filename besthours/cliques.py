"""Cliques: values of several choices no two of which can be together, as sums of two choices each tell.

At most one of them can be. This says more than the sums of two, however they are weighed, and follows from them.
"""

from besthours.steps import add_sums, divide_sum
from besthours.store import mask_of

# more sums of two choices than these are left alone
MOST_PAIRS = 20000


def pair_of(one):
    """The two (CHOICE, MASK) whose values can't be together because of a sum, None if it doesn't just tell this."""
    terms, bound = one
    if bound != 1 or len(terms) != 2 or not all(max(weights) == 1 for _, weights in terms):
        return None
    return [
        (choice, mask_of([value for value, weight in enumerate(weights) if weight == 0])) for choice, weights in terms
    ]


def neighbours(sums):
    """For each (CHOICE, MASK) in a pair the others with which it is in one, by these the number of the sum."""
    near = {}
    many = 0
    for number, told in enumerate(sums):
        pair = None if told is None else pair_of(told)
        if pair is not None:
            for one, other in (pair, pair[::-1]):
                if one not in near:
                    near[one] = {}
                near[one][other] = number
            many += 1
    return near if many <= MOST_PAIRS else {}


def grown(near, first, second):
    """A lot of which each two are neighbours, begun with two of them and as great as can be."""
    lot = [first, second]
    for more in near[first]:
        if all(more in near[member] for member in lot):
            lot.append(more)
    return lot


def cliques_of(near):
    """Lots of three and more of which each two are neighbours, so that all neighbours are in one that are in any."""
    found = []
    done = {}
    for first in near:
        for second in near[first]:
            if (first, second) not in done:
                lot = grown(near, first, second)
                for one in lot:
                    for other in lot:
                        done[(one, other)] = True
                if len(lot) > 2:
                    found.append(lot)
    return found


def joined(store, near, lot):
    """(SUM, STEP, TAGS): at most one of a lot can be.

    If that is so of the first ones, N of them, this N - 1 times, and once of each of them with the next one, divided
    by N, say that it is so of them and the next one.
    """
    number = near[lot[0]][lot[1]]
    one, step, tags = store.sums[number], store.step_of(number), store.tags[number]
    for many in range(2, len(lot)):
        numbers = [near[lot[many]][member] for member in lot[:many]]
        pairs = [(store.step_of(each), 1) for each in numbers]
        one = add_sums([(one, many - 1)] + [(store.sums[each], 1) for each in numbers])
        step = store.add_step(("add", tuple([(step, many - 1)] + pairs)))
        one = divide_sum(one, many)
        step = store.add_step(("divide", step, many))
        for each in numbers:
            tags = tags | store.tags[each]
    return (one, step, tags)


def clique_sums(store):
    """(SUM, STEP, TAGS) of all lots of three and more of which at most one can be, as sums of two choices tell."""
    near = neighbours(store.sums)
    return [joined(store, near, lot) for lot in cliques_of(near)]

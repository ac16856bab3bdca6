"""The sums that a rule asks for, in their form; book and rule are right already.

`values` are the values of all tasks: their spots, or None alone for a task without a spot. It is in no AT and
holds no hour.
"""

from besthours.hours import hours_at
from besthours.keeping import hours_of_spot, sort_of_spot, spot_has_who, spot_in_at
from besthours.sums import form


def in_at(task, spot, at):
    """Whether a value of a task is in AT."""
    return spot is not None and spot_in_at(task, spot, at)


def at_term(book, values, number, at, inside):
    """The task, and a weight of its values that are in AT, or of those that aren't."""
    task = book[4][number]
    return (number, tuple([1 if in_at(task, spot, at) == inside else 0 for spot in values[number]]))


def at_terms(book, values, what, inside):
    """The terms of all TASKS of a rule with an AT."""
    return [at_term(book, values, number, what[2], inside) for number in what[1]]


def least_sums(book, values, what):
    return [form(at_terms(book, values, what, True), what[3])]


def most_sums(book, values, what):
    return [form(at_terms(book, values, what, False), len(what[1]) - what[3])]


def long_terms(book, terms):
    """The terms with the LENGTH of its task in the place of each 1."""
    return [(number, tuple([book[4][number][0] * weight for weight in weights])) for number, weights in terms]


def load_sums(book, values, what):
    _, tasks, _, low, high = what
    whole = sum(book[4][number][0] for number in tasks)
    inside = long_terms(book, at_terms(book, values, what, True))
    outside = long_terms(book, at_terms(book, values, what, False))
    return [form(inside, low), form(outside, whole - high)]


def of_two(one, weights, other, more):
    """The form of the weights of two tasks with the bound 1."""
    return form(sorted([(one, tuple(weights)), (other, tuple(more))]), 1)


def before_sums(book, values, what):
    _, one, other, gap = what
    length = book[4][one][0]
    starts = sorted(set([spot[0] for spot in values[other] if spot is not None]))
    sums = []
    for hour in starts:
        early = [1 if spot is not None and spot[0] + length - 1 + gap <= hour else 0 for spot in values[one]]
        late = [1 if spot[0] > hour else 0 for spot in values[other]]
        sums.append(of_two(one, early, other, late))
    return sums


def things_of(days, spots, sort):
    """The numbers of the things of the SORT that the values of a task have, -1 for None, () without a spot."""
    if None in spots:
        return ()
    things = [sort_of_spot(days, spot, sort) for spot in spots]
    return tuple([-1 if thing is None else thing for thing in things])


def alike_sums(book, values, what):
    _, one, other, sort = what
    mine, theirs = things_of(book[0], values[one], sort), things_of(book[0], values[other], sort)
    sums = []
    for thing in sorted(set(mine)):
        # without a spot nothing is alike
        same = [1 if their == thing else 0 for their in theirs] if theirs != () else [0]
        sums.append(of_two(one, [1 if my != thing else 0 for my in mine], other, same))
    return sums


def unlike_sums(book, values, what):
    _, one, other, sort = what
    mine, theirs = things_of(book[0], values[one], sort), things_of(book[0], values[other], sort)
    sums = []
    for thing in sorted(set(mine) & set(theirs)):
        first = [1 if my != thing else 0 for my in mine]
        sums.append(of_two(one, first, other, [1 if their != thing else 0 for their in theirs]))
    return sums


def piece_of(number, weights):
    """(LEAST, TERMS): the least of some weights 0 and 1, and the term of a task in its form, if it has one."""
    least = min(weights)
    return (least, () if max(weights) == least else ((number, tuple(weights)),))


def hours_behind(days, hour):
    """The hours of the same day behind an hour."""
    for day in range(len(days)):
        hours = hours_at(days, day)
        if hour in hours:
            return hours[hours.index(hour) + 1:]
    return ()


def close_pieces(book, values, what, number, hour):
    """What a task comes to in the sums of "close" at an hour: as S, as T, and as another one of TASKS."""
    _, who, _ = what
    task = book[4][number]
    later = hours_behind(book[0], hour)
    ahead, behind, within = [], [], []
    for spot in values[number]:
        held = () if spot is None or not spot_has_who(task, spot, who) else hours_of_spot(task, spot)
        holds = hour in held
        ahead.append(1 if holds or hour - 1 not in held else 0)
        behind.append(1 if holds or not any(one in later for one in held) else 0)
        within.append(1 if holds else 0)
    return (piece_of(number, ahead), piece_of(number, behind), piece_of(number, within))


def inner_hours(days):
    """The hours with one ahead and one behind on their day, ascending."""
    return [hour for day in range(len(days)) for hour in hours_at(days, day)[1:-1]]


def joined_pieces(pieces):
    """The sum of such weights with the bound 1."""
    if any(least > 0 for least, _ in pieces):
        return ((), 0)
    return (tuple([term for _, terms in pieces for term in terms]), 1)


def close_sums(book, values, what):
    tasks = what[2]
    sums = []
    for hour in inner_hours(book[0]):
        # terms are shared by all sums of an hour, as there may be tens of thousands of these
        pieces = {number: close_pieces(book, values, what, number, hour) for number in tasks}
        others = {number: pieces[number][2] for number in tasks}
        for one in tasks:
            for other in tasks:
                if one != other:
                    told = dict(others)
                    told[one] = pieces[one][0]
                    told[other] = pieces[other][1]
                    sums.append(joined_pieces(list(told.values())))
    return sums


SUMMERS = {
    "least": least_sums,
    "most": most_sums,
    "load": load_sums,
    "before": before_sums,
    "alike": alike_sums,
    "unlike": unlike_sums,
    "close": close_sums,
}


def rule_sums(book, values, what):
    """The sums that a rule asks for, those that come to ((), 0) among them."""
    summer = SUMMERS[what[0]]
    return summer(book, values, what)

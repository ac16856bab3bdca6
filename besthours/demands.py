"""What the parts of a question ask, as sums over its choices, and the sums of givens."""

from besthours.checks import is_integer, is_row, is_word
from besthours.choices import choice_sizes, need_question, need_row, priced_rules
from besthours.errors import BadParameter, NoRow
from besthours.keeping import hours_of_spot
from besthours.rule_sums import rule_sums
from besthours.spots import all_spots, spot_price
from besthours.sums import form, is_kept_by

GIVENS = ("moves", "price")


def holders_of(task, spots):
    """For each (WORD, NUMBER, HOUR) that spots of a task (the task itself) hold the numbers of these spots."""
    found = {}
    for number, spot in enumerate(spots):
        shared = [("group", group) for group in task[3]]
        if spot[1] is not None:
            shared.append(("room", spot[1]))
        if spot[2] is not None:
            shared.append(("person", spot[2]))
        for hour in hours_of_spot(task, spot):
            for word, one in shared:
                found.setdefault((word, one, hour), []).append(number)
    return found


def always_keys(book):
    """(WORD, NUMBER, HOUR) of all rooms, people and groups at all hours, in the order of the demands."""
    many = (("room", len(book[1])), ("person", len(book[2])), ("group", len(book[3])))
    hours = sum(book[0])
    return [(word, one, hour) for word, count in many for one in range(count) for hour in range(hours)]


def all_but(many, numbers):
    """A weight of all of so many spots but those with the numbers."""
    weights = [1] * many
    for number in numbers:
        weights[number] = 0
    return tuple(weights)


def always_demands(book, spots):
    """The demands that nobody and nothing is at two tasks at an hour."""
    terms = {}
    for task, those in enumerate(spots):
        for key, numbers in holders_of(book[4][task], those).items():
            terms.setdefault(key, []).append((task, all_but(len(those), numbers)))
    found = []
    for key in always_keys(book):
        told = terms.get(key, [])
        found.append((("always", key[0], key[1]), form(told, len(told) - 1)))
    return found


def with_price(one, choice):
    """A sum in its form with the choice of its rule, which is 1 where the rule may be broken."""
    terms, bound = one
    return one if bound == 0 else (terms + ((choice, (0, bound)),), bound)


def rule_demands(book, spots):
    """The demands of the rules."""
    values = [those if those != () else (None,) for those in spots]
    priced = priced_rules(book)
    found = []
    for number, (what, price) in enumerate(book[5]):
        sums = rule_sums(book, values, what)
        if price is not None:
            choice = len(book[4]) + priced.index(number)
            sums = [with_price(one, choice) for one in sums]
        found.extend([(("rule", number), one) for one in sums])
    return found


def fixed_demand(spots, task, numbers):
    """The demand that a task stands at one of its spots with these numbers."""
    weights = [0] * max(1, len(spots[task]))
    for number in numbers:
        weights[number] = 1
    return (("fixed", task), form([(task, tuple(weights))], 1))


def all_demands(question):
    """The demands of a question that is right already."""
    book, _, fixed = question
    spots = all_spots(book)
    found = [(("task", task), ((), 1)) for task, those in enumerate(spots) if those == ()]
    found.extend(always_demands(book, spots))
    found.extend(rule_demands(book, spots))
    found.extend([fixed_demand(spots, task, numbers) for task, numbers in fixed])
    return tuple([(part, one) for part, one in found if one[1] > 0])


def moves_sum(question, most):
    """The sum that the moves are at most so many."""
    book, old, _ = question
    terms = []
    for task, spots in enumerate(all_spots(book)):
        if old is not None and old[task] in spots:
            terms.append((task, tuple([1 if spot == old[task] else 0 for spot in spots])))
    return form(terms, len(terms) - most)


def choice_prices(book):
    """For each choice of a question of the book the prices of its values."""
    prices = [
        tuple([spot_price(task, spot) for spot in spots]) if spots != () else (0,)
        for task, spots in zip(book[4], all_spots(book))
    ]
    return prices + [(0, book[5][number][1]) for number in priced_rules(book)]


def price_sum(question, most):
    """The sum that the price is at most so much."""
    prices = choice_prices(question[0])
    return form([(choice, tuple([-price for price in those])) for choice, those in enumerate(prices)], -most)


def given_sums(question, given):
    """The sums of givens; all is right already."""
    return tuple([
        moves_sum(question, most) if word == "moves" else price_sum(question, most) for word, most in given
    ])


def parts_of(told):
    """The unlike parts of some demands, in the order of their first ones."""
    return tuple(dict([(part, True) for part, _ in told]))


def need_given(given):
    """Givens as they are handed in."""
    if not isinstance(given, tuple):
        raise BadParameter(given)
    if not all(is_row(one, 2) and is_word(one[0], GIVENS) and is_integer(one[1]) for one in given):
        raise BadParameter(given)
    return given


def first_unkept(told, row):
    """The number of the first of some demands that a row doesn't keep, None if it keeps all."""
    for number, (_, one) in enumerate(told):
        if not is_kept_by(one, row):
            return number
    return None


def demands(question):
    """The tuple of the demands (PART, SUM) of a question."""
    return all_demands(need_question(question))


def parts(question):
    """The tuple of the unlike parts that have a demand, in order."""
    return parts_of(demands(question))


def givens(question, given):
    """The tuple of the sums of some givens, in their order."""
    need_question(question)
    return given_sums(question, need_given(given))


def keeps_all(question, row):
    """Whether a row keeps all demands."""
    need_row(question, row)
    return first_unkept(all_demands(question), row) is None


def first_broken(question, row):
    """The number of the first demand that a row doesn't keep."""
    need_row(question, row)
    number = first_unkept(all_demands(question), row)
    if number is None:
        raise NoRow()
    return number

"""When a plan keeps a book, what it costs and what it moves."""

from besthours.book import need_book, need_plan
from besthours.checks import is_row, is_standing
from besthours.errors import BadParameter, BadRule
from besthours.keeping import held_by, is_kept
from besthours.rules import rule_fault
from besthours.spots import all_spots, spot_price


def is_old(book, value):
    """Whether a value may be the old plan, not None, of a question of the book."""
    if not is_row(value, len(book[4])):
        return False
    return all(item is None or is_standing(item) for item in value)


def twice_held(book, plan, numbers):
    """The least hour that two of the tasks with these numbers hold, None without one."""
    hours = sorted([hour for number in numbers for hour in held_by(book, plan, number)])
    for hour, later in zip(hours, hours[1:]):
        if hour == later:
            return hour
    return None


def shares(book, plan):
    """(WORD, NUMBER, its tasks) of each room, then of each person, then of each group."""
    tasks = range(len(book[4]))
    found = []
    for room in range(len(book[1])):
        found.append(("room", room, [task for task in tasks if plan[task][1] == room]))
    for person in range(len(book[2])):
        found.append(("person", person, [task for task in tasks if plan[task][2] == person]))
    for group in range(len(book[3])):
        found.append(("group", group, [task for task in tasks if group in book[4][task][3]]))
    return found


def unkept(book, plan):
    """The numbers of the rules that a plan doesn't keep; book and plan are right already."""
    return tuple(number for number, rule in enumerate(book[5]) if not is_kept(book, rule, plan))


def need_rule(book, rule):
    """A rule of the book as it is handed in."""
    need_book(book)
    place = rule_fault(book, rule)
    if place is not None:
        raise BadRule(place)
    return rule


def rule_kept(book, rule, plan):
    """Whether a plan keeps a rule, whatever its price."""
    need_rule(book, rule)
    return is_kept(book, rule, need_plan(book, plan))


def broken(book, plan):
    """What a plan breaks first of what must be kept, None if it keeps the book."""
    need_plan(book, plan)
    for word, value, numbers in shares(book, plan):
        hour = twice_held(book, plan, numbers)
        if hour is not None:
            return (word, value, hour)
    for number in unkept(book, plan):
        if book[5][number][1] is None:
            return ("rule", number)
    return None


def keeps(book, plan):
    """Whether a plan keeps the book."""
    return broken(book, plan) is None


def rules_broken(book, plan):
    """The numbers of all rules that a plan doesn't keep, ascending."""
    return unkept(book, need_plan(book, plan))


def price_of(book, plan):
    """The price of the spots of a plan and of the priced rules that it doesn't keep."""
    need_plan(book, plan)
    prices = [book[5][number][1] for number in unkept(book, plan)]
    standing = sum(spot_price(task, spot) for task, spot in zip(book[4], plan))
    return standing + sum(price for price in prices if price is not None)


def moves_of(book, old, plan):
    """The tasks whose item of `old` is one of their spots and another one than the plan's, ascending."""
    need_book(book)
    if old is not None and not is_old(book, old):
        raise BadParameter(old)
    need_plan(book, plan)
    if old is None:
        return ()
    return tuple(
        number for number, spots in enumerate(all_spots(book))
        if old[number] in spots and old[number] != plan[number]
    )
